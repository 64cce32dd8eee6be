/-
  EpochTurn, as a contract (promise P8.2): for any pair and block the law returns true. Over this seat's translation.
-/
import Derived.Test.YtijpgncecfgfdaaDoorEpoAwake
namespace Go.Proofs.YtijpgncecfgfdaaDoor.Ep
open Go.ChangeShapes Go.WideShapes Go.ChangeAt Go.RowKit Go.Proofs.YtijpgncecfgfdaaDoor.Mem Go.Proofs.YtijpgncecfgfdaaDoor.Bt Go.Proofs.YtijpgncecfgfdaaDoor.Sha Go.Proofs.YtijpgncecfgfdaaDoor.Tg
set_option linter.unusedVariables false
set_option linter.unusedSimpArgs false

theorem run_op_gtrI {P : Program} {o : Oper} {a : Act} (t t' : TypeId) (x y : Operand) (ho : o.op = .binOp .gtr t x y t') (k : IntKind) (m n : Int) (hx : a.eval x = .int k m) (hy : a.eval y = .int k n) (w : World) :
    (execOp a.eval o).run P w = .ok (.value (.bool (decide (n < m)))) w := by
  unfold execOp
  simp [ho, hx, hy, eqGuard, binOp, Op.intCmp]
  try rfl
theorem lockd_led (e : Dat) (b : Blk) : (lockd e b).led = e.led ∧ (lockd e b).start = e.start ∧ (lockd e b).len = e.len := by
  unfold lockd
  split
  · exact ⟨rfl, rfl, rfl⟩
  · exact ⟨rfl, rfl, rfl⟩
theorem lockd_lock (e : Dat) (b : Blk) : (b.to % 24 < 16 → (lockd e b).lock = b.prev) ∧ (¬ b.to % 24 < 16 → (lockd e b).lock = e.lock ∧ (lockd e b).seed = e.seed) :=
  ⟨fun h => by rw [lockd_yes h]; rfl, fun h => by rw [lockd_no h]; exact ⟨rfl, rfl⟩⟩
theorem run_op_addU {P : Program} {o : Oper} {a : Act} (t t' : TypeId) (x y : Operand) (ho : o.op = .binOp .add t x y t') (m n : Int) (hx : a.eval x = .int .u32 m) (hy : a.eval y = .int .u32 n) (w : World) :
    (execOp a.eval o).run P w = .ok (.value (.int .u32 ((m + n) % 4294967296))) w := by
  unfold execOp
  simp [ho, hx, hy, eqGuard, binOp, Op.intArith, IntKind.wrap, IntKind.signed, IntKind.bits]
set_option maxHeartbeats 4000000 in
set_option maxRecDepth 100000 in
theorem epochTurn_slot (cc dd : Dat) (b : Blk) (w : World) (l : cc.Ok) (k : dd.Ok) (j : b.Ok) (hk : w.rangeAt 1 0 (u32s ks)) (hk2 : w.rangeAt 0 0 (u32s ks)) (h : b.to ≤ b.fro) :
    Calls Tryd.prog 6 #[.agg (pcs cc dd).toArray, .agg (bcs b).toArray] w fun e w' => e = .returned (.bool true) ∧ Below w.heap.size w w' := by
  have hk1 : 1 < w.heap.size := range_lt hk (by simp [u32s, ks])
  have hk3 : 0 < w.heap.size := range_lt hk2 (by simp [u32s, ks])
  have HKW : Hid (∀ w', Below w.heap.size w w' → w'.rangeAt 1 0 (u32s ks)) := Lib.hid fun w' hb => range_block hk (hb.block _ hk1)
  have HKR : Hid (∀ w', Below w.heap.size w w' → w'.rangeAt 0 0 (u32s ks)) := Lib.hid fun w' hb => range_block hk2 (hb.block _ hk3)
  clear hk hk2
  have K := Lib.hid k; have KC := Lib.hid l; have J := Lib.hid j
  have CF : Hid (∀ w0, w0.rangeAt 1 0 (u32s ks) → Calls Tryd.prog 8 #[.agg (pcs cc dd).toArray, .agg (bcs b).toArray] w0 fun e w' => e = .returned (.tuple #[.agg (pcs zd zd).toArray, .int .i64 6]) ∧ Below w0.heap.size w0 w') := Lib.hid fun w0 hw0 => by
    obtain ⟨e1, e2, e3⟩ := ans_slot (c := cc) (d := dd) h
    have hc := follow_any cc dd b w0 l k j hw0
    rw [e1, e2, e3] at hc
    exact hc
  have hle : ((b.to : Nat) : Int) ≤ ((b.fro : Nat) : Int) := by omega
  have HH := Lib.hid h
  clear l k j h
  go_enter Tryd.func6, Tryd.ntmps6
  go_wp2_with (first
    | ((with_reducible refine at_slot 2 ?_); (refine arm_box (o := ⟨some 2, _, _, _, _, _⟩) rfl _ _ rfl (pcs cc dd) rfl ?_); intro A w1 Ae hw1 nw1)
    | ((with_reducible refine at_slot 3 ?_); (refine arm_box (o := ⟨some 3, _, _, _, _, _⟩) rfl _ _ rfl (bcs b) rfl ?_); intro B w2 Be hw2 nw2))
  have e1 := Ae.out; have e2 := Be.out; have s1 := nw1.size; have s2 := nw2.size
  have rA3 := hw1.old nw2.below; have rB3 := hw2
  have bel3 : Below w.heap.size w w2 := below_step nw1.below (by omega) nw2.below
  have hAB : A ≠ B := by omega
  clear e1 e2 s1 s2 Ae Be hw1 nw1 hw2 nw2
  refine (awake_any _ (HKW.out _ bel3) (HKR.out _ bel3)).mono ?_
  rintro e w4 ⟨rfl, hB⟩
  have rA4 := rA3.old hB; have rB4 := rB3.old hB
  have bel4 : Below w.heap.size w w4 := below_step bel3 bel3.size hB
  clear hB rA3 rB3 bel3
  go_wp2_with (first
    | ((with_reducible refine at_slot 11 ?_); (refine arm_load (o := ⟨some 11, _, _, _, _, _⟩) rfl _ _ rfl A 0 rfl (pcs cc dd) ((Has.refl _).range rA4) (sz_pair KC.out K.out) ?_))
    | ((with_reducible refine at_slot 12 ?_); (refine arm_load (o := ⟨some 12, _, _, _, _, _⟩) rfl _ _ rfl B 0 rfl (bcs b) ((Has.refl _).range rB4) (sz_blk J.out) ?_)))
  refine (CF.out _ (HKW.out _ bel4)).mono ?_
  rintro e w5 ⟨rfl, hB⟩
  have rA5 := rA4.old hB; have rB5 := rB4.old hB
  have bel5 : Below w.heap.size w w5 := below_step bel4 bel4.size hB
  have qA := rA5.lt; have qB := rB5.lt
  clear hB rA4 rB4 bel4 CF
  go_wp2_with (first
    | ((with_reducible refine at_slot 5 ?_); (refine arm_alloc (o := ⟨some 5, _, _, _, _, _⟩) rfl _ rfl (pcs zd zd) z_pair ?_); intro F w6 Fe hw6 nw6)
    | ((with_reducible refine arm_store (o := ⟨none, _, _, _, _, _⟩) rfl _ _ _ rfl F 0 rfl (pcs zd zd) rfl _ _ (hw6) (fitP zd_ok zd_ok) (pcs_one _ _) (sz_pair zd_ok zd_ok) ?_); intro w7 hw7 ow7 sw7)
    | ((with_reducible refine at_slot 18 ?_); (refine arm_load (o := ⟨some 18, _, _, _, _, _⟩) rfl _ _ rfl F 0 rfl (pcs zd zd) ((Has.refl _).range (hw7.congr (allP zd_ok zd_ok))) (sz_pair zd_ok zd_ok) ?_))
    | ((with_reducible refine at_slot 19 ?_); (refine arm_build (o := ⟨some 19, _, _, _, _, _⟩) rfl _ _ rfl (pcs zd zd) built_pair0 ?_))
    | ((with_reducible refine at_slot 20 ?_); (refine arm_want (.bool true) 20 rfl (by kernel_rfl) (run_op_eqlPair zd zd zd_ok zd_ok _ _ _ rfl rfl rfl _) ?_))
    | ((with_reducible refine at_slot 25 ?_); (refine arm_want (.int .u32 (b.to : Int)) 25 rfl (by kernel_rfl) (run_op_load1 _ _ rfl (.int .u32) (by kernel_rfl) rfl ⟨B, 1, none⟩ rfl (.int .u32 (b.to : Int)) (((rB5.old nw6.below).only ow7 (by have := Fe.out; omega)).cell (show Has _ 1 _ from b_to (Has.refl (bcs b))).get)) ?_))
    | ((with_reducible refine at_slot 27 ?_); (refine arm_want (.int .u32 (b.fro : Int)) 27 rfl (by kernel_rfl) (run_op_load1 _ _ rfl (.int .u32) (by kernel_rfl) rfl ⟨B, 0, none⟩ rfl (.int .u32 (b.fro : Int)) (((rB5.old nw6.below).only ow7 (by have := Fe.out; omega)).cell (show Has _ 0 _ from b_fro (Has.refl (bcs b))).get)) ?_)))
  have e1 := Fe.out; have s1 := nw6.size; have s3 := bel5.size
  have hd := HH.out
  go_ret
  exact ⟨rfl, below_only (below_step bel5 bel5.size nw6.below) ow7 (by omega) (by omega)⟩
set_option maxHeartbeats 4000000 in
set_option maxRecDepth 100000 in
theorem epochTurn_over (cc dd : Dat) (b : Blk) (w : World) (l : cc.Ok) (k : dd.Ok) (j : b.Ok) (hk : w.rangeAt 1 0 (u32s ks)) (hk2 : w.rangeAt 0 0 (u32s ks)) (h : b.fro < b.to) (ho : overs dd b) :
    Calls Tryd.prog 6 #[.agg (pcs cc dd).toArray, .agg (bcs b).toArray] w fun e w' => e = .returned (.bool true) ∧ Below w.heap.size w w' := by
  have hk1 : 1 < w.heap.size := range_lt hk (by simp [u32s, ks])
  have hk3 : 0 < w.heap.size := range_lt hk2 (by simp [u32s, ks])
  have HKW : Hid (∀ w', Below w.heap.size w w' → w'.rangeAt 1 0 (u32s ks)) := Lib.hid fun w' hb => range_block hk (hb.block _ hk1)
  have HKR : Hid (∀ w', Below w.heap.size w w' → w'.rangeAt 0 0 (u32s ks)) := Lib.hid fun w' hb => range_block hk2 (hb.block _ hk3)
  clear hk hk2
  have K := Lib.hid k; have KC := Lib.hid l; have J := Lib.hid j
  have CF : Hid (∀ w0, w0.rangeAt 1 0 (u32s ks) → Calls Tryd.prog 8 #[.agg (pcs cc dd).toArray, .agg (bcs b).toArray] w0 fun e w' => e = .returned (.tuple #[.agg (pcs zd zd).toArray, .int .i64 5]) ∧ Below w0.heap.size w0 w') := Lib.hid fun w0 hw0 => by
    obtain ⟨e1, e2, e3⟩ := ans_over (c := cc) h ho
    have hc := follow_any cc dd b w0 l k j hw0
    rw [e1, e2, e3] at hc
    exact hc
  have hle : ((b.fro : Nat) : Int) < ((b.to : Nat) : Int) := by omega
  have HH := Lib.hid h
  clear l k j h ho
  go_enter Tryd.func6, Tryd.ntmps6
  go_wp2_with (first
    | ((with_reducible refine at_slot 2 ?_); (refine arm_box (o := ⟨some 2, _, _, _, _, _⟩) rfl _ _ rfl (pcs cc dd) rfl ?_); intro A w1 Ae hw1 nw1)
    | ((with_reducible refine at_slot 3 ?_); (refine arm_box (o := ⟨some 3, _, _, _, _, _⟩) rfl _ _ rfl (bcs b) rfl ?_); intro B w2 Be hw2 nw2))
  have e1 := Ae.out; have e2 := Be.out; have s1 := nw1.size; have s2 := nw2.size
  have rA3 := hw1.old nw2.below; have rB3 := hw2
  have bel3 : Below w.heap.size w w2 := below_step nw1.below (by omega) nw2.below
  have hAB : A ≠ B := by omega
  clear e1 e2 s1 s2 Ae Be hw1 nw1 hw2 nw2
  refine (awake_any _ (HKW.out _ bel3) (HKR.out _ bel3)).mono ?_
  rintro e w4 ⟨rfl, hB⟩
  have rA4 := rA3.old hB; have rB4 := rB3.old hB
  have bel4 : Below w.heap.size w w4 := below_step bel3 bel3.size hB
  clear hB rA3 rB3 bel3
  go_wp2_with (first
    | ((with_reducible refine at_slot 11 ?_); (refine arm_load (o := ⟨some 11, _, _, _, _, _⟩) rfl _ _ rfl A 0 rfl (pcs cc dd) ((Has.refl _).range rA4) (sz_pair KC.out K.out) ?_))
    | ((with_reducible refine at_slot 12 ?_); (refine arm_load (o := ⟨some 12, _, _, _, _, _⟩) rfl _ _ rfl B 0 rfl (bcs b) ((Has.refl _).range rB4) (sz_blk J.out) ?_)))
  refine (CF.out _ (HKW.out _ bel4)).mono ?_
  rintro e w5 ⟨rfl, hB⟩
  have rA5 := rA4.old hB; have rB5 := rB4.old hB
  have bel5 : Below w.heap.size w w5 := below_step bel4 bel4.size hB
  have qA := rA5.lt; have qB := rB5.lt
  clear hB rA4 rB4 bel4 CF
  go_wp2_with (first
    | ((with_reducible refine at_slot 5 ?_); (refine arm_alloc (o := ⟨some 5, _, _, _, _, _⟩) rfl _ rfl (pcs zd zd) z_pair ?_); intro F w6 Fe hw6 nw6)
    | ((with_reducible refine arm_store (o := ⟨none, _, _, _, _, _⟩) rfl _ _ _ rfl F 0 rfl (pcs zd zd) rfl _ _ (hw6) (fitP zd_ok zd_ok) (pcs_one _ _) (sz_pair zd_ok zd_ok) ?_); intro w7 hw7 ow7 sw7)
    | ((with_reducible refine at_slot 18 ?_); (refine arm_load (o := ⟨some 18, _, _, _, _, _⟩) rfl _ _ rfl F 0 rfl (pcs zd zd) ((Has.refl _).range (hw7.congr (allP zd_ok zd_ok))) (sz_pair zd_ok zd_ok) ?_))
    | ((with_reducible refine at_slot 19 ?_); (refine arm_build (o := ⟨some 19, _, _, _, _, _⟩) rfl _ _ rfl (pcs zd zd) built_pair0 ?_))
    | ((with_reducible refine at_slot 20 ?_); (refine arm_want (.bool true) 20 rfl (by kernel_rfl) (run_op_eqlPair zd zd zd_ok zd_ok _ _ _ rfl rfl rfl _) ?_))
    | ((with_reducible refine at_slot 25 ?_); (refine arm_want (.int .u32 (b.to : Int)) 25 rfl (by kernel_rfl) (run_op_load1 _ _ rfl (.int .u32) (by kernel_rfl) rfl ⟨B, 1, none⟩ rfl (.int .u32 (b.to : Int)) (((rB5.old nw6.below).only ow7 (by have := Fe.out; omega)).cell (show Has _ 1 _ from b_to (Has.refl (bcs b))).get)) ?_))
    | ((with_reducible refine at_slot 27 ?_); (refine arm_want (.int .u32 (b.fro : Int)) 27 rfl (by kernel_rfl) (run_op_load1 _ _ rfl (.int .u32) (by kernel_rfl) rfl ⟨B, 0, none⟩ rfl (.int .u32 (b.fro : Int)) (((rB5.old nw6.below).only ow7 (by have := Fe.out; omega)).cell (show Has _ 0 _ from b_fro (Has.refl (bcs b))).get)) ?_)))
  have e1 := Fe.out; have s1 := nw6.size; have s3 := bel5.size
  have hd := HH.out
  go_ret
  exact ⟨congrArg (fun x => Ending.returned (.bool x)) (show (!decide (b.to ≤ b.fro)) = true by rw [decide_eq_false (by omega)]; rfl), below_only (below_step bel5 bel5.size nw6.below) ow7 (by omega) (by omega)⟩
set_option maxHeartbeats 4000000 in
set_option maxRecDepth 100000 in
theorem epochTurn_turn (cc dd : Dat) (b : Blk) (w : World) (l : cc.Ok) (k : dd.Ok) (j : b.Ok) (hk : w.rangeAt 1 0 (u32s ks)) (hk2 : w.rangeAt 0 0 (u32s ks)) (h : b.fro < b.to) (ht : b.fro / 24 < b.to / 24) :
    Calls Tryd.prog 6 #[.agg (pcs cc dd).toArray, .agg (bcs b).toArray] w fun e w' => e = .returned (.bool true) ∧ Below w.heap.size w w' := by
  have hk1 : 1 < w.heap.size := range_lt hk (by simp [u32s, ks])
  have hk3 : 0 < w.heap.size := range_lt hk2 (by simp [u32s, ks])
  have HKW : Hid (∀ w', Below w.heap.size w w' → w'.rangeAt 1 0 (u32s ks)) := Lib.hid fun w' hb => range_block hk (hb.block _ hk1)
  have HKR : Hid (∀ w', Below w.heap.size w w' → w'.rangeAt 0 0 (u32s ks)) := Lib.hid fun w' hb => range_block hk2 (hb.block _ hk3)
  clear hk hk2
  have K := Lib.hid k; have KC := Lib.hid l; have J := Lib.hid j
  obtain ⟨an, han⟩ : ∃ an, an = nextF dd b := ⟨_, rfl⟩
  obtain ⟨ac, hac⟩ : ∃ ac, ac = nowF cc dd b := ⟨_, rfl⟩
  have KA := Lib.hid (show ac.Ok by rw [hac]; exact now_ok l k)
  have KN := Lib.hid (show an.Ok by rw [han]; exact next_ok k j (fun x => x.1 ht))
  have CF : Hid (∀ w0, w0.rangeAt 1 0 (u32s ks) → Calls Tryd.prog 8 #[.agg (pcs cc dd).toArray, .agg (bcs b).toArray] w0 fun e w' => e = .returned (.tuple #[.agg (pcs ac an).toArray, .int .i64 0]) ∧ Below w0.heap.size w0 w') := Lib.hid fun w0 hw0 => by
    obtain ⟨e1, e2, e3⟩ := ans_ok (c := cc) h (fun x => x.1 ht)
    have hc := follow_any cc dd b w0 l k j hw0
    rw [e1, e2, e3, ← hac, ← han] at hc
    exact hc
  have han' : an = lockd (turnD dd b) b := by rw [han]; unfold nextF; rw [(made_yes (c := cc) (d := dd) ht).1]
  have AC := Lib.hid (show ac = dd by rw [hac]; exact (made_yes (c := cc) (d := dd) ht).2)
  obtain ⟨lk, hlk⟩ : ∃ lk, lk = zh := ⟨_, rfl⟩
  have KLK := Lib.hid (show H32 lk by rw [hlk]; exact zh_ok)
  have FL := Lib.hid (show an.led = b.led by rw [han']; exact (lockd_led _ _).1)
  have FS := Lib.hid (show an.start = b.prev by rw [han']; exact (lockd_led _ _).2.1)
  have FN := Lib.hid (show an.len = 1 by rw [han']; exact (lockd_led _ _).2.2)
  have LKY := Lib.hid (fun h : b.to % 24 < 16 => show an.lock = b.prev by rw [han']; exact (lockd_lock _ _).1 h)
  have LKN := Lib.hid (fun h : ¬ b.to % 24 < 16 => show an.lock = lk ∧ an.seed = dd.seed by rw [han', hlk]; exact (lockd_lock _ _).2 h)
  have HT := Lib.hid (show decide (((b.fro / 24 : Nat) : Int) < ((b.to / 24 : Nat) : Int)) = true by exact decide_eq_true (by omega))
  have BLK := Lib.hid (show Tryd.prog.built 23 [] = some (u8s lk).toArray by rw [hlk]; exact b_hash0)
  clear l k j h ht han hac han' hlk
  go_enter Tryd.func6, Tryd.ntmps6
  go_wp2_with (first
    | ((with_reducible refine at_slot 2 ?_); (refine arm_box (o := ⟨some 2, _, _, _, _, _⟩) rfl _ _ rfl (pcs cc dd) rfl ?_); intro A w1 Ae hw1 nw1)
    | ((with_reducible refine at_slot 3 ?_); (refine arm_box (o := ⟨some 3, _, _, _, _, _⟩) rfl _ _ rfl (bcs b) rfl ?_); intro B w2 Be hw2 nw2))
  have e1 := Ae.out; have e2 := Be.out; have s1 := nw1.size; have s2 := nw2.size
  have rA3 := hw1.old nw2.below; have rB3 := hw2
  have bel3 : Below w.heap.size w w2 := below_step nw1.below (by omega) nw2.below
  have hAB : A ≠ B := by omega
  clear e1 e2 s1 s2 Ae Be hw1 nw1 hw2 nw2
  refine (awake_any _ (HKW.out _ bel3) (HKR.out _ bel3)).mono ?_
  rintro e w4 ⟨rfl, hB⟩
  have rA4 := rA3.old hB; have rB4 := rB3.old hB
  have bel4 : Below w.heap.size w w4 := below_step bel3 bel3.size hB
  clear hB rA3 rB3 bel3
  go_wp2_with (first
    | ((with_reducible refine at_slot 11 ?_); (refine arm_load (o := ⟨some 11, _, _, _, _, _⟩) rfl _ _ rfl A 0 rfl (pcs cc dd) ((Has.refl _).range rA4) (sz_pair KC.out K.out) ?_))
    | ((with_reducible refine at_slot 12 ?_); (refine arm_load (o := ⟨some 12, _, _, _, _, _⟩) rfl _ _ rfl B 0 rfl (bcs b) ((Has.refl _).range rB4) (sz_blk J.out) ?_)))
  refine (CF.out _ (HKW.out _ bel4)).mono ?_
  rintro e w5 ⟨rfl, hB⟩
  have rA5 := rA4.old hB; have rB5 := rB4.old hB
  have bel5 : Below w.heap.size w w5 := below_step bel4 bel4.size hB
  have qA := rA5.lt; have qB := rB5.lt
  clear hB rA4 rB4 bel4 CF
  go_wp2_with (first
    | ((with_reducible refine at_slot 5 ?_); (refine arm_alloc (o := ⟨some 5, _, _, _, _, _⟩) rfl _ rfl (pcs zd zd) z_pair ?_); intro F w6 Fe hw6 nw6)
    | ((with_reducible refine arm_store (o := ⟨none, _, _, _, _, _⟩) rfl _ _ _ rfl F 0 rfl (pcs ac an) rfl _ _ (hw6) (fitP KA.out KN.out) (pcs_one _ _) (sz_pair KA.out KN.out) ?_); intro w7 hw7 ow7 sw7)
    | ((with_reducible refine at_slot 33 ?_); (refine arm_load (o := ⟨some 33, _, _, _, _, _⟩) rfl _ _ rfl A 225 rfl (u8s dd.lock) ((show Has (pcs cc dd) 225 (u8s dd.lock) from d_lock K.out (p_next KC.out (Has.refl _))).range ((rA5.old nw6.below).only ow7 (by have := Fe.out; omega))) (szH K.out.lock) ?_))
    | ((with_reducible refine at_slot 7 ?_); (refine arm_alloc (o := ⟨some 7, _, _, _, _, _⟩) rfl _ rfl (u8s zh) zH ?_); intro L w8 Le hw8 nw8)
    | ((with_reducible refine arm_store (o := ⟨none, _, _, _, _, _⟩) rfl _ _ _ rfl L 0 rfl (u8s dd.lock) rfl _ _ (hw8) (fitH K.out.lock) (u8s_one _) (szH K.out.lock) ?_); intro w9 hw9 ow9 sw9))
  have e1 := Fe.out; have s1 := nw6.size; have s2 := sw7.out; have s3 := bel5.size; have e2 := Le.out; have s4 := nw8.size
  have hAF : A ≠ F := by omega
  have hBF : B ≠ F := by omega
  have hAL : A ≠ L := by omega
  have hBL : B ≠ L := by omega
  have hFL : F ≠ L := by omega
  have lF : w.heap.size ≤ F := by omega
  have lL : w.heap.size ≤ L := by omega
  have rA9 := ((rA5.old nw6.below).only ow7 hAF).old nw8.below |>.only ow9 hAL
  have rB9 := ((rB5.old nw6.below).only ow7 hBF).old nw8.below |>.only ow9 hBL
  have rF9 := ((hw7.congr (allP KA.out KN.out)).old nw8.below).only ow9 hFL
  have rL9 := hw9.congr (allH K.out.lock)
  have bel9 : Below w.heap.size w w9 := below_only (below_step (below_only (below_step bel5 bel5.size nw6.below) ow7 lF (by omega)) (by omega) nw8.below) ow9 lL (by omega)
  clear e1 s1 s2 s3 e2 s4 qA qB Fe Le hw6 nw6 hw7 ow7 sw7 hw8 nw8 hw9 ow9 sw9 rA5 rB5 bel5
  refine wp_region_quiet (C := fun w' => Below w9.heap.size w9 w') (by kernel_rfl) (by kernel_rfl) ((Below.refl _ _).drew) ?_
  rw [List.toList_toArray]
  refine q_value 34 rfl (.pointer (some ⟨B, 1, none⟩)) (by kernel_rfl) (fun w' _ => by kernel_rfl) ?_
  simp only [Act.put, List.setIfInBounds_toArray, List.set_cons_zero, List.set_cons_succ]
  refine q_value 35 rfl (num32 b.to) (by kernel_rfl) (fun w' hC => run_op_load1 _ _ rfl (.int .u32) (by kernel_rfl) rfl ⟨B, 1, none⟩ rfl (num32 b.to) ((rB9.old hC).cell (show Has (bcs b) 1 [num32 b.to] from b_to (Has.refl (bcs b))).get)) ?_
  simp only [Act.put, List.setIfInBounds_toArray, List.set_cons_zero, List.set_cons_succ]
  refine q_call 36 rfl (num32 (b.to / 24)) 14 #[num32 b.to] (by kernel_rfl) (fun w' _ => run_op_call _ _ _ rfl _ (by simp only [List.map_toArray, List.map_cons, List.map_nil]; rfl) Tryd.func14 (by kernel_rfl) (by kernel_rfl) w') (fun w' hC => (Slot.repoch_nat b.to w' J.out.to).mono fun e w'' h => ⟨h.1, h.2 ▸ hC⟩) ?_
  simp only [Act.put, List.setIfInBounds_toArray, List.set_cons_zero, List.set_cons_succ]
  refine q_value 37 rfl (.pointer (some ⟨B, 0, none⟩)) (by kernel_rfl) (fun w' _ => by kernel_rfl) ?_
  simp only [Act.put, List.setIfInBounds_toArray, List.set_cons_zero, List.set_cons_succ]
  refine q_value 38 rfl (num32 b.fro) (by kernel_rfl) (fun w' hC => run_op_load1 _ _ rfl (.int .u32) (by kernel_rfl) rfl ⟨B, 0, none⟩ rfl (num32 b.fro) ((rB9.old hC).cell (b_fro (Has.refl (bcs b))).get)) ?_
  simp only [Act.put, List.setIfInBounds_toArray, List.set_cons_zero, List.set_cons_succ]
  refine q_call 39 rfl (num32 (b.fro / 24)) 14 #[num32 b.fro] (by kernel_rfl) (fun w' _ => run_op_call _ _ _ rfl _ (by simp only [List.map_toArray, List.map_cons, List.map_nil]; rfl) Tryd.func14 (by kernel_rfl) (by kernel_rfl) w') (fun w' hC => (Slot.repoch_nat b.fro w' J.out.fro).mono fun e w'' h => ⟨h.1, h.2 ▸ hC⟩) ?_
  simp only [Act.put, List.setIfInBounds_toArray, List.set_cons_zero, List.set_cons_succ]
  refine q_value 40 rfl (.bool true) (by kernel_rfl) (fun w' _ => by rw [← HT.out]; exact run_op_gtrI _ _ _ _ rfl .u32 _ _ rfl rfl w') ?_
  simp only [Act.put, List.setIfInBounds_toArray, List.set_cons_zero, List.set_cons_succ]
  refine wpQuiet_nil ?_
  intro w10 hC
  have rA := rA9.old hC; have rB := rB9.old hC; have rF := rF9.old hC; have rL := rL9.old hC
  have bel : Below w.heap.size w w10 := below_step bel9 bel9.size hC
  clear hC rA9 rB9 rF9 rL9 bel9 HT
  go_wp2_with (first
    | ((with_reducible refine at_slot 41 ?_); (refine arm_build (o := ⟨some 41, _, _, _, _, _⟩) rfl _ _ rfl (u8s lk) (by simp only [List.map_toArray, List.map_cons, List.map_nil]; exact BLK.out) ?_))
    | ((with_reducible refine arm_store (o := ⟨none, _, _, _, _, _⟩) rfl _ _ _ rfl L 0 rfl (u8s lk) rfl _ _ (rL) (by rw [h_len KLK.out, h_len K.out.lock]; omega) (u8s_one _) (szH KLK.out) ?_); intro w11 hw11 ow11 sw11)
    | ((with_reducible refine at_slot 43 ?_); (refine arm_want (.agg (dcs dd).toArray) 43 rfl (by kernel_rfl) (run_op_load _ _ rfl F 0 rfl (dcs dd) ((show Has _ 0 (dcs dd) from AC.out ▸ p_now (Has.refl (pcs ac an))).range (rF.only ow11 hFL)) (sz_dat K.out)) ?_))
    | ((with_reducible refine at_slot 45 ?_); (refine arm_want (.agg (dcs dd).toArray) 45 rfl (by kernel_rfl) (run_op_load _ _ rfl A 129 rfl (dcs dd) ((show Has _ 129 (dcs dd) from (p_next KC.out (Has.refl (pcs cc dd)))).range (rA.only ow11 hAL)) (sz_dat K.out)) ?_))
    | ((with_reducible refine at_slot 46 ?_); (refine arm_want (.bool false) 46 rfl (by kernel_rfl) (run_op_neqDat dd K.out _ _ _ rfl rfl rfl _) ?_))
    | ((with_reducible refine at_slot 50 ?_); (refine arm_want (.agg (u8s b.led).toArray) 50 rfl (by kernel_rfl) (run_op_load _ _ rfl F 129 rfl (u8s b.led) ((show Has _ 129 (u8s b.led) from FL.out ▸ d_led (p_next KA.out (Has.refl (pcs ac an)))).range (rF.only ow11 hFL)) (szH J.out.led)) ?_))
    | ((with_reducible refine at_slot 52 ?_); (refine arm_want (.agg (u8s b.led).toArray) 52 rfl (by kernel_rfl) (run_op_load _ _ rfl B 34 rfl (u8s b.led) ((show Has _ 34 (u8s b.led) from b_led J.out (Has.refl (bcs b))).range (rB.only ow11 hBL)) (szH J.out.led)) ?_))
    | ((with_reducible refine at_slot 53 ?_); (refine arm_want (.bool false) 53 rfl (by kernel_rfl) (run_op_neq _ _ _ rfl (b.led) (J.out.led.len) rfl rfl _) ?_))
    | ((with_reducible refine at_slot 58 ?_); (refine arm_want (.agg (u8s b.prev).toArray) 58 rfl (by kernel_rfl) (run_op_load _ _ rfl F 193 rfl (u8s b.prev) ((show Has _ 193 (u8s b.prev) from FS.out ▸ d_start KN.out (p_next KA.out (Has.refl (pcs ac an)))).range (rF.only ow11 hFL)) (szH J.out.prev)) ?_))
    | ((with_reducible refine at_slot 60 ?_); (refine arm_want (.agg (u8s b.prev).toArray) 60 rfl (by kernel_rfl) (run_op_load _ _ rfl B 2 rfl (u8s b.prev) ((show Has _ 2 (u8s b.prev) from b_prev (Has.refl (bcs b))).range (rB.only ow11 hBL)) (szH J.out.prev)) ?_))
    | ((with_reducible refine at_slot 61 ?_); (refine arm_want (.bool false) 61 rfl (by kernel_rfl) (run_op_neq _ _ _ rfl (b.prev) (J.out.prev.len) rfl rfl _) ?_))
    | ((with_reducible refine at_slot 66 ?_); (refine arm_want (.int .u32 1) 66 rfl (by kernel_rfl) (run_op_load1 _ _ rfl (.int .u32) (by kernel_rfl) rfl ⟨F, 257, none⟩ rfl (.int .u32 1) (by have h := (rF.only ow11 hFL).cell (show Has _ 257 _ from d_len KN.out (p_next KA.out (Has.refl (pcs ac an)))).get; rw [FN.out] at h; exact h)) ?_))
    | ((with_reducible refine at_slot 103 ?_); (refine arm_want (.int .u32 (b.to : Int)) 103 rfl (by kernel_rfl) (run_op_load1 _ _ rfl (.int .u32) (by kernel_rfl) rfl ⟨B, 1, none⟩ rfl (.int .u32 (b.to : Int)) ((rB.only ow11 hBL).cell (show Has _ 1 _ from b_to (Has.refl (bcs b))).get)) ?_)))
  have rA11 := rA.only ow11 hAL; have rB11 := rB.only ow11 hBL; have rF11 := rF.only ow11 hFL
  have rL11 := hw11.congr (lay_all _ _ (by rw [h_len KLK.out, h_len K.out.lock]))
  have bel11 : Below w.heap.size w w11 := below_only bel ow11 lL bel.size
  clear hw11 ow11 sw11 rA rB rF rL bel
  refine (Slot.rlocking_nat b.to _ J.out.to).mono ?_
  rintro e y ⟨rfl, rfl⟩
  by_cases hl : b.to % 24 < 16
  · have LK := Lib.hid (LKY.out hl)
    have HL := Lib.hid (decide_eq_true hl)
    rw [decide_eq_true hl]
    clear hl LKY LKN
    go_wp2_with (first
      | ((with_reducible refine at_slot 106 ?_); (refine arm_load (o := ⟨some 106, _, _, _, _, _⟩) rfl _ _ rfl B 2 rfl (u8s b.prev) ((show Has (bcs b) 2 (u8s b.prev) from b_prev (Has.refl _)).range rB11) (szH J.out.prev) ?_))
      | ((with_reducible refine arm_store (o := ⟨none, _, _, _, _, _⟩) rfl _ _ _ rfl L 0 rfl (u8s b.prev) rfl _ _ (rL11) (by rw [h_len J.out.prev, h_len KLK.out]; omega) (u8s_one _) (szH J.out.prev) ?_); intro v1 hv1 ov1 sv1)
      | ((with_reducible refine at_slot 109 ?_); (refine arm_want (.agg (u8s b.prev).toArray) 109 rfl (by kernel_rfl) (run_op_load _ _ rfl F 225 rfl (u8s b.prev) ((show Has _ 225 (u8s b.prev) from LK.out ▸ d_lock KN.out (p_next KA.out (Has.refl (pcs ac an)))).range (rF11.only ov1 hFL)) (szH J.out.prev)) ?_))
      | ((with_reducible refine at_slot 110 ?_); (refine arm_want (.agg (u8s b.prev).toArray) 110 rfl (by kernel_rfl) (run_op_load _ _ rfl L 0 rfl (u8s b.prev) ((show Has _ 0 (u8s b.prev) from Has.refl _).range (hv1.congr (lay_all _ _ (by rw [h_len J.out.prev, h_len KLK.out])))) (szH J.out.prev)) ?_))
      | ((with_reducible refine at_slot 111 ?_); (refine arm_want (.bool true) 111 rfl (by kernel_rfl) (run_op_eql _ _ _ rfl (b.prev) (J.out.prev.len) rfl rfl _) ?_))
      | ((with_reducible refine at_slot 114 ?_); (refine arm_want (.int .u32 (b.to : Int)) 114 rfl (by kernel_rfl) (run_op_load1 _ _ rfl (.int .u32) (by kernel_rfl) rfl ⟨B, 1, none⟩ rfl (.int .u32 (b.to : Int)) ((rB11.only ov1 hBL).cell (show Has _ 1 _ from b_to (Has.refl (bcs b))).get)) ?_)))
    refine (Slot.rlocking_nat b.to _ J.out.to).mono ?_
    rw [HL.out]
    rintro e z ⟨rfl, rfl⟩
    go_wp2_with fail
    go_ret
    exact ⟨rfl, below_only bel11 ov1 lL bel11.size⟩
  · have LK := Lib.hid (LKN.out hl).1
    have SD := Lib.hid (LKN.out hl).2
    have HL := Lib.hid (decide_eq_false hl)
    rw [decide_eq_false hl]
    clear hl LKY LKN
    go_wp2_with (first
      | ((with_reducible refine at_slot 109 ?_); (refine arm_want (.agg (u8s lk).toArray) 109 rfl (by kernel_rfl) (run_op_load _ _ rfl F 225 rfl (u8s lk) ((show Has _ 225 (u8s lk) from LK.out ▸ d_lock KN.out (p_next KA.out (Has.refl (pcs ac an)))).range (rF11)) (szH KLK.out)) ?_))
      | ((with_reducible refine at_slot 110 ?_); (refine arm_want (.agg (u8s lk).toArray) 110 rfl (by kernel_rfl) (run_op_load _ _ rfl L 0 rfl (u8s lk) ((show Has _ 0 (u8s lk) from Has.refl _).range (rL11)) (szH KLK.out)) ?_))
      | ((with_reducible refine at_slot 111 ?_); (refine arm_want (.bool true) 111 rfl (by kernel_rfl) (run_op_eql _ _ _ rfl (lk) (KLK.out.len) rfl rfl _) ?_))
      | ((with_reducible refine at_slot 114 ?_); (refine arm_want (.int .u32 (b.to : Int)) 114 rfl (by kernel_rfl) (run_op_load1 _ _ rfl (.int .u32) (by kernel_rfl) rfl ⟨B, 1, none⟩ rfl (.int .u32 (b.to : Int)) ((rB11).cell (show Has _ 1 _ from b_to (Has.refl (bcs b))).get)) ?_)))
    refine (Slot.rlocking_nat b.to _ J.out.to).mono ?_
    rw [HL.out]
    rintro e z ⟨rfl, rfl⟩
    go_wp2_with (first
      | ((with_reducible refine at_slot 119 ?_); (refine arm_want (.agg (u8s dd.seed).toArray) 119 rfl (by kernel_rfl) (run_op_load _ _ rfl F 161 rfl (u8s dd.seed) ((show Has _ 161 (u8s dd.seed) from SD.out ▸ d_seed KN.out (p_next KA.out (Has.refl (pcs ac an)))).range (rF11)) (szH K.out.seed)) ?_))
      | ((with_reducible refine at_slot 122 ?_); (refine arm_want (.agg (u8s dd.seed).toArray) 122 rfl (by kernel_rfl) (run_op_load _ _ rfl A 161 rfl (u8s dd.seed) ((show Has _ 161 (u8s dd.seed) from d_seed K.out (p_next KC.out (Has.refl (pcs cc dd)))).range (rA11)) (szH K.out.seed)) ?_))
      | ((with_reducible refine at_slot 123 ?_); (refine arm_want (.bool true) 123 rfl (by kernel_rfl) (run_op_eql _ _ _ rfl (dd.seed) (K.out.seed.len) rfl rfl _) ?_)))
    go_ret
    exact ⟨rfl, bel11⟩
set_option maxHeartbeats 4000000 in
set_option maxRecDepth 100000 in
theorem epochTurn_more (cc dd : Dat) (b : Blk) (w : World) (l : cc.Ok) (k : dd.Ok) (j : b.Ok) (hk : w.rangeAt 1 0 (u32s ks)) (hk2 : w.rangeAt 0 0 (u32s ks)) (h : b.fro < b.to) (ht : ¬ b.fro / 24 < b.to / 24) (hn : ¬ overs dd b) :
    Calls Tryd.prog 6 #[.agg (pcs cc dd).toArray, .agg (bcs b).toArray] w fun e w' => e = .returned (.bool true) ∧ Below w.heap.size w w' := by
  have hk1 : 1 < w.heap.size := range_lt hk (by simp [u32s, ks])
  have hk3 : 0 < w.heap.size := range_lt hk2 (by simp [u32s, ks])
  have HKW : Hid (∀ w', Below w.heap.size w w' → w'.rangeAt 1 0 (u32s ks)) := Lib.hid fun w' hb => range_block hk (hb.block _ hk1)
  have HKR : Hid (∀ w', Below w.heap.size w w' → w'.rangeAt 0 0 (u32s ks)) := Lib.hid fun w' hb => range_block hk2 (hb.block _ hk3)
  clear hk hk2
  have K := Lib.hid k; have KC := Lib.hid l; have J := Lib.hid j
  obtain ⟨an, han⟩ : ∃ an, an = nextF dd b := ⟨_, rfl⟩
  obtain ⟨ac, hac⟩ : ∃ ac, ac = nowF cc dd b := ⟨_, rfl⟩
  have KA := Lib.hid (show ac.Ok by rw [hac]; exact now_ok l k)
  have KN := Lib.hid (show an.Ok by rw [han]; exact next_ok k j hn)
  have CF : Hid (∀ w0, w0.rangeAt 1 0 (u32s ks) → Calls Tryd.prog 8 #[.agg (pcs cc dd).toArray, .agg (bcs b).toArray] w0 fun e w' => e = .returned (.tuple #[.agg (pcs ac an).toArray, .int .i64 0]) ∧ Below w0.heap.size w0 w') := Lib.hid fun w0 hw0 => by
    obtain ⟨e1, e2, e3⟩ := ans_ok (c := cc) h hn
    have hc := follow_any cc dd b w0 l k j hw0
    rw [e1, e2, e3, ← hac, ← han] at hc
    exact hc
  have han' : an = lockd (moreD dd) b := by rw [han]; unfold nextF; rw [(made_no (c := cc) (d := dd) ht).1]
  have AC := Lib.hid (show ac = cc by rw [hac]; exact (made_no (c := cc) (d := dd) ht).2)
  obtain ⟨lk, hlk⟩ : ∃ lk, lk = dd.lock := ⟨_, rfl⟩
  have KLK := Lib.hid (show H32 lk by rw [hlk]; exact k.lock)
  have FL := Lib.hid (show an.led = dd.led by rw [han']; exact (lockd_led _ _).1)
  have FS := Lib.hid (show an.start = dd.start by rw [han']; exact (lockd_led _ _).2.1)
  have FN := Lib.hid (show an.len = dd.len + 1 by rw [han']; exact (lockd_led _ _).2.2)
  have LKY := Lib.hid (fun h : b.to % 24 < 16 => show an.lock = b.prev by rw [han']; exact (lockd_lock _ _).1 h)
  have LKN := Lib.hid (fun h : ¬ b.to % 24 < 16 => show an.lock = lk ∧ an.seed = dd.seed by rw [han', hlk]; exact (lockd_lock _ _).2 h)
  have HT := Lib.hid (show decide (((b.fro / 24 : Nat) : Int) < ((b.to / 24 : Nat) : Int)) = false by exact decide_eq_false (by omega))
  have hlen : dd.len + 1 < 4294967296 := by have := k.len; unfold overs at hn; omega
  have HLK := Lib.hid hlk
  clear l k j h ht han hac han' hlk hn
  go_enter Tryd.func6, Tryd.ntmps6
  go_wp2_with (first
    | ((with_reducible refine at_slot 2 ?_); (refine arm_box (o := ⟨some 2, _, _, _, _, _⟩) rfl _ _ rfl (pcs cc dd) rfl ?_); intro A w1 Ae hw1 nw1)
    | ((with_reducible refine at_slot 3 ?_); (refine arm_box (o := ⟨some 3, _, _, _, _, _⟩) rfl _ _ rfl (bcs b) rfl ?_); intro B w2 Be hw2 nw2))
  have e1 := Ae.out; have e2 := Be.out; have s1 := nw1.size; have s2 := nw2.size
  have rA3 := hw1.old nw2.below; have rB3 := hw2
  have bel3 : Below w.heap.size w w2 := below_step nw1.below (by omega) nw2.below
  have hAB : A ≠ B := by omega
  clear e1 e2 s1 s2 Ae Be hw1 nw1 hw2 nw2
  refine (awake_any _ (HKW.out _ bel3) (HKR.out _ bel3)).mono ?_
  rintro e w4 ⟨rfl, hB⟩
  have rA4 := rA3.old hB; have rB4 := rB3.old hB
  have bel4 : Below w.heap.size w w4 := below_step bel3 bel3.size hB
  clear hB rA3 rB3 bel3
  go_wp2_with (first
    | ((with_reducible refine at_slot 11 ?_); (refine arm_load (o := ⟨some 11, _, _, _, _, _⟩) rfl _ _ rfl A 0 rfl (pcs cc dd) ((Has.refl _).range rA4) (sz_pair KC.out K.out) ?_))
    | ((with_reducible refine at_slot 12 ?_); (refine arm_load (o := ⟨some 12, _, _, _, _, _⟩) rfl _ _ rfl B 0 rfl (bcs b) ((Has.refl _).range rB4) (sz_blk J.out) ?_)))
  refine (CF.out _ (HKW.out _ bel4)).mono ?_
  rintro e w5 ⟨rfl, hB⟩
  have rA5 := rA4.old hB; have rB5 := rB4.old hB
  have bel5 : Below w.heap.size w w5 := below_step bel4 bel4.size hB
  have qA := rA5.lt; have qB := rB5.lt
  clear hB rA4 rB4 bel4 CF
  go_wp2_with (first
    | ((with_reducible refine at_slot 5 ?_); (refine arm_alloc (o := ⟨some 5, _, _, _, _, _⟩) rfl _ rfl (pcs zd zd) z_pair ?_); intro F w6 Fe hw6 nw6)
    | ((with_reducible refine arm_store (o := ⟨none, _, _, _, _, _⟩) rfl _ _ _ rfl F 0 rfl (pcs ac an) rfl _ _ (hw6) (fitP KA.out KN.out) (pcs_one _ _) (sz_pair KA.out KN.out) ?_); intro w7 hw7 ow7 sw7)
    | ((with_reducible refine at_slot 33 ?_); (refine arm_load (o := ⟨some 33, _, _, _, _, _⟩) rfl _ _ rfl A 225 rfl (u8s dd.lock) ((show Has (pcs cc dd) 225 (u8s dd.lock) from d_lock K.out (p_next KC.out (Has.refl _))).range ((rA5.old nw6.below).only ow7 (by have := Fe.out; omega))) (szH K.out.lock) ?_))
    | ((with_reducible refine at_slot 7 ?_); (refine arm_alloc (o := ⟨some 7, _, _, _, _, _⟩) rfl _ rfl (u8s zh) zH ?_); intro L w8 Le hw8 nw8)
    | ((with_reducible refine arm_store (o := ⟨none, _, _, _, _, _⟩) rfl _ _ _ rfl L 0 rfl (u8s dd.lock) rfl _ _ (hw8) (fitH K.out.lock) (u8s_one _) (szH K.out.lock) ?_); intro w9 hw9 ow9 sw9))
  have e1 := Fe.out; have s1 := nw6.size; have s2 := sw7.out; have s3 := bel5.size; have e2 := Le.out; have s4 := nw8.size
  have hAF : A ≠ F := by omega
  have hBF : B ≠ F := by omega
  have hAL : A ≠ L := by omega
  have hBL : B ≠ L := by omega
  have hFL : F ≠ L := by omega
  have lF : w.heap.size ≤ F := by omega
  have lL : w.heap.size ≤ L := by omega
  have rA9 := ((rA5.old nw6.below).only ow7 hAF).old nw8.below |>.only ow9 hAL
  have rB9 := ((rB5.old nw6.below).only ow7 hBF).old nw8.below |>.only ow9 hBL
  have rF9 := ((hw7.congr (allP KA.out KN.out)).old nw8.below).only ow9 hFL
  have rL9 := hw9.congr (allH K.out.lock)
  have bel9 : Below w.heap.size w w9 := below_only (below_step (below_only (below_step bel5 bel5.size nw6.below) ow7 lF (by omega)) (by omega) nw8.below) ow9 lL (by omega)
  clear e1 s1 s2 s3 e2 s4 qA qB Fe Le hw6 nw6 hw7 ow7 sw7 hw8 nw8 hw9 ow9 sw9 rA5 rB5 bel5
  refine wp_region_quiet (C := fun w' => Below w9.heap.size w9 w') (by kernel_rfl) (by kernel_rfl) ((Below.refl _ _).drew) ?_
  rw [List.toList_toArray]
  refine q_value 34 rfl (.pointer (some ⟨B, 1, none⟩)) (by kernel_rfl) (fun w' _ => by kernel_rfl) ?_
  simp only [Act.put, List.setIfInBounds_toArray, List.set_cons_zero, List.set_cons_succ]
  refine q_value 35 rfl (num32 b.to) (by kernel_rfl) (fun w' hC => run_op_load1 _ _ rfl (.int .u32) (by kernel_rfl) rfl ⟨B, 1, none⟩ rfl (num32 b.to) ((rB9.old hC).cell (show Has (bcs b) 1 [num32 b.to] from b_to (Has.refl (bcs b))).get)) ?_
  simp only [Act.put, List.setIfInBounds_toArray, List.set_cons_zero, List.set_cons_succ]
  refine q_call 36 rfl (num32 (b.to / 24)) 14 #[num32 b.to] (by kernel_rfl) (fun w' _ => run_op_call _ _ _ rfl _ (by simp only [List.map_toArray, List.map_cons, List.map_nil]; rfl) Tryd.func14 (by kernel_rfl) (by kernel_rfl) w') (fun w' hC => (Slot.repoch_nat b.to w' J.out.to).mono fun e w'' h => ⟨h.1, h.2 ▸ hC⟩) ?_
  simp only [Act.put, List.setIfInBounds_toArray, List.set_cons_zero, List.set_cons_succ]
  refine q_value 37 rfl (.pointer (some ⟨B, 0, none⟩)) (by kernel_rfl) (fun w' _ => by kernel_rfl) ?_
  simp only [Act.put, List.setIfInBounds_toArray, List.set_cons_zero, List.set_cons_succ]
  refine q_value 38 rfl (num32 b.fro) (by kernel_rfl) (fun w' hC => run_op_load1 _ _ rfl (.int .u32) (by kernel_rfl) rfl ⟨B, 0, none⟩ rfl (num32 b.fro) ((rB9.old hC).cell (b_fro (Has.refl (bcs b))).get)) ?_
  simp only [Act.put, List.setIfInBounds_toArray, List.set_cons_zero, List.set_cons_succ]
  refine q_call 39 rfl (num32 (b.fro / 24)) 14 #[num32 b.fro] (by kernel_rfl) (fun w' _ => run_op_call _ _ _ rfl _ (by simp only [List.map_toArray, List.map_cons, List.map_nil]; rfl) Tryd.func14 (by kernel_rfl) (by kernel_rfl) w') (fun w' hC => (Slot.repoch_nat b.fro w' J.out.fro).mono fun e w'' h => ⟨h.1, h.2 ▸ hC⟩) ?_
  simp only [Act.put, List.setIfInBounds_toArray, List.set_cons_zero, List.set_cons_succ]
  refine q_value 40 rfl (.bool false) (by kernel_rfl) (fun w' _ => by rw [← HT.out]; exact run_op_gtrI _ _ _ _ rfl .u32 _ _ rfl rfl w') ?_
  simp only [Act.put, List.setIfInBounds_toArray, List.set_cons_zero, List.set_cons_succ]
  refine wpQuiet_nil ?_
  intro w10 hC
  have rA := rA9.old hC; have rB := rB9.old hC; have rF := rF9.old hC; have rL := rL9.old hC
  have bel : Below w.heap.size w w10 := below_step bel9 bel9.size hC
  clear hC rA9 rB9 rF9 rL9 bel9 HT
  go_wp2_with (first
    | ((with_reducible refine at_slot 70 ?_); (refine arm_want (.agg (dcs cc).toArray) 70 rfl (by kernel_rfl) (run_op_load _ _ rfl F 0 rfl (dcs cc) ((show Has _ 0 (dcs cc) from AC.out ▸ p_now (Has.refl (pcs ac an))).range (rF)) (sz_dat KC.out)) ?_))
    | ((with_reducible refine at_slot 72 ?_); (refine arm_want (.agg (dcs cc).toArray) 72 rfl (by kernel_rfl) (run_op_load _ _ rfl A 0 rfl (dcs cc) ((show Has _ 0 (dcs cc) from p_now (Has.refl (pcs cc dd))).range (rA)) (sz_dat KC.out)) ?_))
    | ((with_reducible refine at_slot 73 ?_); (refine arm_want (.bool false) 73 rfl (by kernel_rfl) (run_op_neqDat cc KC.out _ _ _ rfl rfl rfl _) ?_))
    | ((with_reducible refine at_slot 77 ?_); (refine arm_want (.agg (u8s dd.led).toArray) 77 rfl (by kernel_rfl) (run_op_load _ _ rfl F 129 rfl (u8s dd.led) ((show Has _ 129 (u8s dd.led) from FL.out ▸ d_led (p_next KA.out (Has.refl (pcs ac an)))).range (rF)) (szH K.out.led)) ?_))
    | ((with_reducible refine at_slot 80 ?_); (refine arm_want (.agg (u8s dd.led).toArray) 80 rfl (by kernel_rfl) (run_op_load _ _ rfl A 129 rfl (u8s dd.led) ((show Has _ 129 (u8s dd.led) from d_led (p_next KC.out (Has.refl (pcs cc dd)))).range (rA)) (szH K.out.led)) ?_))
    | ((with_reducible refine at_slot 81 ?_); (refine arm_want (.bool false) 81 rfl (by kernel_rfl) (run_op_neq _ _ _ rfl (dd.led) (K.out.led.len) rfl rfl _) ?_))
    | ((with_reducible refine at_slot 86 ?_); (refine arm_want (.agg (u8s dd.start).toArray) 86 rfl (by kernel_rfl) (run_op_load _ _ rfl F 193 rfl (u8s dd.start) ((show Has _ 193 (u8s dd.start) from FS.out ▸ d_start KN.out (p_next KA.out (Has.refl (pcs ac an)))).range (rF)) (szH K.out.start)) ?_))
    | ((with_reducible refine at_slot 89 ?_); (refine arm_want (.agg (u8s dd.start).toArray) 89 rfl (by kernel_rfl) (run_op_load _ _ rfl A 193 rfl (u8s dd.start) ((show Has _ 193 (u8s dd.start) from d_start K.out (p_next KC.out (Has.refl (pcs cc dd)))).range (rA)) (szH K.out.start)) ?_))
    | ((with_reducible refine at_slot 90 ?_); (refine arm_want (.bool false) 90 rfl (by kernel_rfl) (run_op_neq _ _ _ rfl (dd.start) (K.out.start.len) rfl rfl _) ?_))
    | ((with_reducible refine at_slot 95 ?_); (refine arm_want (.int .u32 ((dd.len + 1 : Nat) : Int)) 95 rfl (by kernel_rfl) (run_op_load1 _ _ rfl (.int .u32) (by kernel_rfl) rfl ⟨F, 257, none⟩ rfl (.int .u32 ((dd.len + 1 : Nat) : Int)) (by have h := (rF).cell (show Has _ 257 _ from d_len KN.out (p_next KA.out (Has.refl (pcs ac an)))).get; rw [FN.out] at h; exact h)) ?_))
    | ((with_reducible refine at_slot 98 ?_); (refine arm_want (.int .u32 (dd.len : Int)) 98 rfl (by kernel_rfl) (run_op_load1 _ _ rfl (.int .u32) (by kernel_rfl) rfl ⟨A, 257, none⟩ rfl (.int .u32 (dd.len : Int)) ((rA).cell (show Has _ 257 _ from d_len K.out (p_next KC.out (Has.refl (pcs cc dd)))).get)) ?_))
    | ((with_reducible refine at_slot 99 ?_); (refine arm_want (.int .u32 ((dd.len + 1 : Nat) : Int)) 99 rfl (by kernel_rfl) (by rw [show (Value.int .u32 ((dd.len + 1 : Nat) : Int)) = .int .u32 (((dd.len : Int) + 1) % 4294967296) by congr 1; omega]; exact run_op_addU _ _ _ _ rfl _ _ rfl rfl _) ?_))
    | ((with_reducible refine at_slot 100 ?_); (refine arm_want (.bool false) 100 rfl (by kernel_rfl) (by rw [show (Value.bool false) = .bool (!((((dd.len + 1 : Nat) : Int)) == (((dd.len + 1 : Nat) : Int)))) by rw [beq_self_eq_true]; rfl]; exact run_op_neqI _ _ .u32 (by kernel_rfl) _ _ rfl .u32 _ _ rfl rfl _) ?_))
    | ((with_reducible refine at_slot 103 ?_); (refine arm_want (.int .u32 (b.to : Int)) 103 rfl (by kernel_rfl) (run_op_load1 _ _ rfl (.int .u32) (by kernel_rfl) rfl ⟨B, 1, none⟩ rfl (.int .u32 (b.to : Int)) ((rB).cell (show Has _ 1 _ from b_to (Has.refl (bcs b))).get)) ?_)))
  rw [← HLK.out] at rL
  refine (Slot.rlocking_nat b.to _ J.out.to).mono ?_
  rintro e y ⟨rfl, rfl⟩
  by_cases hl : b.to % 24 < 16
  · have LK := Lib.hid (LKY.out hl)
    have HL := Lib.hid (decide_eq_true hl)
    rw [decide_eq_true hl]
    clear hl LKY LKN
    go_wp2_with (first
      | ((with_reducible refine at_slot 106 ?_); (refine arm_load (o := ⟨some 106, _, _, _, _, _⟩) rfl _ _ rfl B 2 rfl (u8s b.prev) ((show Has (bcs b) 2 (u8s b.prev) from b_prev (Has.refl _)).range rB) (szH J.out.prev) ?_))
      | ((with_reducible refine arm_store (o := ⟨none, _, _, _, _, _⟩) rfl _ _ _ rfl L 0 rfl (u8s b.prev) rfl _ _ (rL) (by rw [h_len J.out.prev, h_len KLK.out]; omega) (u8s_one _) (szH J.out.prev) ?_); intro v1 hv1 ov1 sv1)
      | ((with_reducible refine at_slot 109 ?_); (refine arm_want (.agg (u8s b.prev).toArray) 109 rfl (by kernel_rfl) (run_op_load _ _ rfl F 225 rfl (u8s b.prev) ((show Has _ 225 (u8s b.prev) from LK.out ▸ d_lock KN.out (p_next KA.out (Has.refl (pcs ac an)))).range (rF.only ov1 hFL)) (szH J.out.prev)) ?_))
      | ((with_reducible refine at_slot 110 ?_); (refine arm_want (.agg (u8s b.prev).toArray) 110 rfl (by kernel_rfl) (run_op_load _ _ rfl L 0 rfl (u8s b.prev) ((show Has _ 0 (u8s b.prev) from Has.refl _).range (hv1.congr (lay_all _ _ (by rw [h_len J.out.prev, h_len KLK.out])))) (szH J.out.prev)) ?_))
      | ((with_reducible refine at_slot 111 ?_); (refine arm_want (.bool true) 111 rfl (by kernel_rfl) (run_op_eql _ _ _ rfl (b.prev) (J.out.prev.len) rfl rfl _) ?_))
      | ((with_reducible refine at_slot 114 ?_); (refine arm_want (.int .u32 (b.to : Int)) 114 rfl (by kernel_rfl) (run_op_load1 _ _ rfl (.int .u32) (by kernel_rfl) rfl ⟨B, 1, none⟩ rfl (.int .u32 (b.to : Int)) ((rB.only ov1 hBL).cell (show Has _ 1 _ from b_to (Has.refl (bcs b))).get)) ?_)))
    refine (Slot.rlocking_nat b.to _ J.out.to).mono ?_
    rw [HL.out]
    rintro e z ⟨rfl, rfl⟩
    go_wp2_with fail
    go_ret
    exact ⟨rfl, below_only bel ov1 lL bel.size⟩
  · have LK := Lib.hid (LKN.out hl).1
    have SD := Lib.hid (LKN.out hl).2
    have HL := Lib.hid (decide_eq_false hl)
    rw [decide_eq_false hl]
    clear hl LKY LKN
    go_wp2_with (first
      | ((with_reducible refine at_slot 109 ?_); (refine arm_want (.agg (u8s lk).toArray) 109 rfl (by kernel_rfl) (run_op_load _ _ rfl F 225 rfl (u8s lk) ((show Has _ 225 (u8s lk) from LK.out ▸ d_lock KN.out (p_next KA.out (Has.refl (pcs ac an)))).range (rF)) (szH KLK.out)) ?_))
      | ((with_reducible refine at_slot 110 ?_); (refine arm_want (.agg (u8s lk).toArray) 110 rfl (by kernel_rfl) (run_op_load _ _ rfl L 0 rfl (u8s lk) ((show Has _ 0 (u8s lk) from Has.refl _).range (rL)) (szH KLK.out)) ?_))
      | ((with_reducible refine at_slot 111 ?_); (refine arm_want (.bool true) 111 rfl (by kernel_rfl) (run_op_eql _ _ _ rfl (lk) (KLK.out.len) rfl rfl _) ?_))
      | ((with_reducible refine at_slot 114 ?_); (refine arm_want (.int .u32 (b.to : Int)) 114 rfl (by kernel_rfl) (run_op_load1 _ _ rfl (.int .u32) (by kernel_rfl) rfl ⟨B, 1, none⟩ rfl (.int .u32 (b.to : Int)) ((rB).cell (show Has _ 1 _ from b_to (Has.refl (bcs b))).get)) ?_)))
    refine (Slot.rlocking_nat b.to _ J.out.to).mono ?_
    rw [HL.out]
    rintro e z ⟨rfl, rfl⟩
    go_wp2_with (first
      | ((with_reducible refine at_slot 119 ?_); (refine arm_want (.agg (u8s dd.seed).toArray) 119 rfl (by kernel_rfl) (run_op_load _ _ rfl F 161 rfl (u8s dd.seed) ((show Has _ 161 (u8s dd.seed) from SD.out ▸ d_seed KN.out (p_next KA.out (Has.refl (pcs ac an)))).range (rF)) (szH K.out.seed)) ?_))
      | ((with_reducible refine at_slot 122 ?_); (refine arm_want (.agg (u8s dd.seed).toArray) 122 rfl (by kernel_rfl) (run_op_load _ _ rfl A 161 rfl (u8s dd.seed) ((show Has _ 161 (u8s dd.seed) from d_seed K.out (p_next KC.out (Has.refl (pcs cc dd)))).range (rA)) (szH K.out.seed)) ?_))
      | ((with_reducible refine at_slot 123 ?_); (refine arm_want (.bool true) 123 rfl (by kernel_rfl) (run_op_eql _ _ _ rfl (dd.seed) (K.out.seed.len) rfl rfl _) ?_)))
    go_ret
    exact ⟨rfl, bel⟩
theorem epochTurn_any (cc dd : Dat) (b : Blk) (w : World) (l : cc.Ok) (k : dd.Ok) (j : b.Ok) (hk : w.rangeAt 1 0 (u32s ks)) (hk2 : w.rangeAt 0 0 (u32s ks)) :
    Calls Tryd.prog 6 #[.agg (pcs cc dd).toArray, .agg (bcs b).toArray] w fun e w' => e = .returned (.bool true) ∧ Below w.heap.size w w' := by
  by_cases h : b.fro < b.to
  · by_cases ho : overs dd b
    · exact epochTurn_over cc dd b w l k j hk hk2 h ho
    · by_cases ht : b.fro / 24 < b.to / 24
      · exact epochTurn_turn cc dd b w l k j hk hk2 h ht
      · exact epochTurn_more cc dd b w l k j hk hk2 h ht ho
  · exact epochTurn_slot cc dd b w l k j hk hk2 (by omega)
end Go.Proofs.YtijpgncecfgfdaaDoor.Ep
