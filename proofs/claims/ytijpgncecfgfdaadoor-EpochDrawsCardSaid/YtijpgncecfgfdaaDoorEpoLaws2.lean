/-
  EpochDraws, as a contract (promise P8.2): for any pair, block and other draw the law returns true. Over this seat's translation.
-/
import Derived.Test.YtijpgncecfgfdaaDoorEpoAwake
namespace Go.Proofs.YtijpgncecfgfdaaDoor.Ep
open Go.ChangeShapes Go.WideShapes Go.ChangeAt Go.RowKit Go.Proofs.YtijpgncecfgfdaaDoor.Mem Go.Proofs.YtijpgncecfgfdaaDoor.Bt Go.Proofs.YtijpgncecfgfdaaDoor.Sha Go.Proofs.YtijpgncecfgfdaaDoor.Tg
set_option linter.unusedVariables false
set_option linter.unusedSimpArgs false

/-- The same block with another draw. -/
def drawn (b : Blk) (x : List Nat) : Blk := ⟨b.fro, b.to, b.prev, b.led, x⟩
theorem drawn_ok {b : Blk} {x : List Nat} (j : b.Ok) (k : H32 x) : (drawn b x).Ok := ⟨j.fro, j.to, j.prev, j.led, k⟩
theorem drawE (d : Dat) (b : Blk) (x : List Nat) : ansE d (drawn b x) = ansE d b := rfl
theorem drawC (c d : Dat) (b : Blk) (x : List Nat) : ansC c d (drawn b x) = ansC c d b := rfl
theorem drawn_made (d : Dat) (b : Blk) (x : List Nat) : made d (drawn b x) = made d b := rfl
theorem drawN_no (d : Dat) (b : Blk) (x : List Nat) (h : ¬ b.to % 24 < 16) : ansN d (drawn b x) = ansN d b := by
  unfold ansN nextF
  rw [lockd_no (b := drawn b x) h, lockd_no (b := b) h]
  rfl
/-- But for the seed. -/
theorem drawN_seed (d : Dat) (b : Blk) (x : List Nat) : Dat.mk (ansN d (drawn b x)).led (ansN d b).seed (ansN d (drawn b x)).start (ansN d (drawn b x)).lock (ansN d (drawn b x)).len = ansN d b := by
  by_cases hl : b.to % 24 < 16
  · unfold ansN nextF
    rw [lockd_yes (b := drawn b x) hl, lockd_yes (b := b) hl]
    have e1 : (drawn b x).fro = b.fro := rfl
    have e2 : (drawn b x).to = b.to := rfl
    have e3 : overs d (drawn b x) = overs d b := rfl
    by_cases h : b.fro < b.to ∧ ¬ overs d b
    · rw [if_pos h, if_pos (show (drawn b x).fro < (drawn b x).to ∧ ¬ overs d (drawn b x) from h)]
      rfl
    · rw [if_neg h, if_neg (show ¬ ((drawn b x).fro < (drawn b x).to ∧ ¬ overs d (drawn b x)) from h)]
  · rw [drawN_no d b x hl]
set_option maxHeartbeats 4000000 in
set_option maxRecDepth 100000 in
theorem epochDraws_any (cc dd : Dat) (b : Blk) (lg : List Nat) (w : World) (l : cc.Ok) (k : dd.Ok) (j : b.Ok) (kl : H32 lg) (hk : w.rangeAt 1 0 (u32s ks)) (hk2 : w.rangeAt 0 0 (u32s ks)) :
    Calls Tryd.prog 5 #[.agg (pcs cc dd).toArray, .agg (bcs b).toArray, .agg (u8s lg).toArray] w fun e w' => e = .returned (.bool true) ∧ Below w.heap.size w w' := by
  have hk1 : 1 < w.heap.size := range_lt hk (by simp [u32s, ks])
  have hk3 : 0 < w.heap.size := range_lt hk2 (by simp [u32s, ks])
  have HKW : Hid (∀ w', Below w.heap.size w w' → w'.rangeAt 1 0 (u32s ks)) := Lib.hid fun w' hb => range_block hk (hb.block _ hk1)
  have HKR : Hid (∀ w', Below w.heap.size w w' → w'.rangeAt 0 0 (u32s ks)) := Lib.hid fun w' hb => range_block hk2 (hb.block _ hk3)
  clear hk hk2
  have K := Lib.hid k; have KC := Lib.hid l; have J := Lib.hid j; have KL := Lib.hid kl
  obtain ⟨ac, hac⟩ : ∃ ac, ac = ansC cc dd b := ⟨_, rfl⟩
  obtain ⟨an, han⟩ : ∃ an, an = ansN dd b := ⟨_, rfl⟩
  obtain ⟨ae, hae⟩ : ∃ ae, ae = ansE dd b := ⟨_, rfl⟩
  have KA := Lib.hid (show ac.Ok by rw [hac]; exact ansC_ok l k)
  have KN := Lib.hid (show an.Ok by rw [han]; exact ansN_ok k j)
  have CF : Hid (∀ w0, w0.rangeAt 1 0 (u32s ks) → Calls Tryd.prog 8 #[.agg (pcs cc dd).toArray, .agg (bcs b).toArray] w0 fun e w' => e = .returned (.tuple #[.agg (pcs ac an).toArray, .int .i64 ae]) ∧ Below w0.heap.size w0 w') := Lib.hid fun w0 h => by rw [hac, han, hae]; exact follow_any cc dd b w0 l k j h
  obtain ⟨bn, hbn⟩ : ∃ bn, bn = ansN dd (drawn b lg) := ⟨_, rfl⟩
  have KB := Lib.hid (show bn.Ok by rw [hbn]; exact ansN_ok k (drawn_ok j kl))
  have SB := Lib.hid (show Dat.mk bn.led an.seed bn.start bn.lock bn.len = an by rw [hbn, han]; exact drawN_seed dd b lg)
  have NB := Lib.hid (fun h : ¬ b.to % 24 < 16 => show bn = an by rw [hbn, han]; exact drawN_no dd b lg h)
  have CG : Hid (∀ w0, w0.rangeAt 1 0 (u32s ks) → Calls Tryd.prog 8 #[.agg (pcs cc dd).toArray, .agg (bcs (drawn b lg)).toArray] w0 fun e w' => e = .returned (.tuple #[.agg (pcs ac bn).toArray, .int .i64 ae]) ∧ Below w0.heap.size w0 w') := Lib.hid fun w0 h => by rw [hac, hbn, hae]; exact follow_any cc dd (drawn b lg) w0 l k (drawn_ok j kl) h
  have LB := Lib.hid (show lay (bcs b) 66 (u8s lg) = bcs (drawn b lg) from lay_draw j kl)
  have JB := Lib.hid (drawn_ok j kl)
  have GB := Lib.hid (show 66 + (u8s lg).length ≤ (bcs b).length by rw [h_len kl, bcs_len j]; omega)
  have TB := Lib.hid (show (drawn b lg).to = b.to from rfl)
  clear l k j kl hac han hae hbn
  generalize drawn b lg = bd at CG LB JB TB
  go_enter Tryd.func5, Tryd.ntmps5
  go_wp2_with (first
    | ((with_reducible refine at_slot 3 ?_); (refine arm_box (o := ⟨some 3, _, _, _, _, _⟩) rfl _ _ rfl (pcs cc dd) rfl ?_); intro A w1 Ae hw1 nw1)
    | ((with_reducible refine at_slot 4 ?_); (refine arm_box (o := ⟨some 4, _, _, _, _, _⟩) rfl _ _ rfl (bcs b) rfl ?_); intro B w2 Be hw2 nw2)
    | ((with_reducible refine at_slot 5 ?_); (refine arm_box (o := ⟨some 5, _, _, _, _, _⟩) rfl _ _ rfl (u8s lg) rfl ?_); intro C w3 Ce hw3 nw3))
  have e1 := Ae.out; have e2 := Be.out; have e3 := Ce.out; have s1 := nw1.size; have s2 := nw2.size; have s3 := nw3.size
  have rA3 := (hw1.old nw2.below).old nw3.below; have rB3 := hw2.old nw3.below; have rC3 := hw3
  have bel3 : Below w.heap.size w w3 := below_step (below_step nw1.below (by omega) nw2.below) (by omega) nw3.below
  have hAB : A ≠ B := by omega
  have hAC : A ≠ C := by omega
  have hBC : B ≠ C := by omega
  have lB : w.heap.size ≤ B := by omega
  clear e1 e2 e3 s1 s2 s3 Ae Be Ce hw1 nw1 hw2 nw2 hw3 nw3
  refine (awake_any _ (HKW.out _ bel3) (HKR.out _ bel3)).mono ?_
  rintro e w4 ⟨rfl, hB⟩
  have rA4 := rA3.old hB; have rB4 := rB3.old hB; have rC4 := rC3.old hB
  have bel4 : Below w.heap.size w w4 := below_step bel3 bel3.size hB
  clear hB rA3 rB3 rC3 bel3
  go_wp2_with (first
    | ((with_reducible refine at_slot 14 ?_); (refine arm_load (o := ⟨some 14, _, _, _, _, _⟩) rfl _ _ rfl A 0 rfl (pcs cc dd) ((Has.refl _).range rA4) (sz_pair KC.out K.out) ?_))
    | ((with_reducible refine at_slot 15 ?_); (refine arm_load (o := ⟨some 15, _, _, _, _, _⟩) rfl _ _ rfl B 0 rfl (bcs b) ((Has.refl _).range rB4) (sz_blk J.out) ?_)))
  refine (CF.out _ (HKW.out _ bel4)).mono ?_
  rintro e w5 ⟨rfl, hB⟩
  have rA5 := rA4.old hB; have rB5 := rB4.old hB; have rC5 := rC4.old hB
  have bel5 : Below w.heap.size w w5 := below_step bel4 bel4.size hB
  have qA := rA5.lt; have qB := rB5.lt; have qC := rC5.lt
  clear hB rA4 rB4 rC4 bel4 CF
  go_wp2_with (first
    | ((with_reducible refine at_slot 7 ?_); (refine arm_alloc (o := ⟨some 7, _, _, _, _, _⟩) rfl _ rfl (pcs zd zd) z_pair ?_); intro F w6 Fe hw6 nw6)
    | ((with_reducible refine arm_store (o := ⟨none, _, _, _, _, _⟩) rfl _ _ _ rfl F 0 rfl (pcs ac an) rfl _ _ (hw6) (fitP KA.out KN.out) (pcs_one _ _) (sz_pair KA.out KN.out) ?_); intro w7 hw7 ow7 sw7)
    | ((with_reducible refine at_slot 19 ?_); (refine arm_load (o := ⟨some 19, _, _, _, _, _⟩) rfl _ _ rfl C 0 rfl (u8s lg) ((Has.refl _).range ((rC5.old nw6.below).only ow7 (by have := Fe.out; omega))) (szH KL.out) ?_))
    | ((with_reducible refine arm_store (o := ⟨none, _, _, _, _, _⟩) rfl _ _ _ rfl B 66 rfl (u8s lg) rfl _ _ ((rB5.old nw6.below).only ow7 (by have := Fe.out; omega)) GB.out (u8s_one _) (szH KL.out) ?_); intro w8 hw8 ow8 sw8)
    | ((with_reducible refine at_slot 22 ?_); (refine arm_load (o := ⟨some 22, _, _, _, _, _⟩) rfl _ _ rfl A 0 rfl (pcs cc dd) ((Has.refl _).range (((rA5.old nw6.below).only ow7 (by have := Fe.out; omega)).only ow8 hAB)) (sz_pair KC.out K.out) ?_))
    | ((with_reducible refine at_slot 23 ?_); (refine arm_load (o := ⟨some 23, _, _, _, _, _⟩) rfl _ _ rfl B 0 rfl (bcs bd) ((Has.refl _).range (hw8.congr LB.out)) (sz_blk JB.out) ?_)))
  have e1 := Fe.out; have s1 := nw6.size; have s2 := sw7.out; have s3 := bel5.size
  have hAF : A ≠ F := by omega
  have hBF : B ≠ F := by omega
  have hCF : C ≠ F := by omega
  have lF : w.heap.size ≤ F := by omega
  have rA7 := (rA5.old nw6.below).only ow7 hAF; have rB7 := (rB5.old nw6.below).only ow7 hBF; have rC7 := (rC5.old nw6.below).only ow7 hCF
  have rF7 := hw7.congr (allP KA.out KN.out)
  have bel7 : Below w.heap.size w w7 := below_only (below_step bel5 bel5.size nw6.below) ow7 lF (by omega)
  have rA8 := rA7.only ow8 hAB; have rF8 := rF7.only ow8 (Ne.symm hBF); have rB8 := hw8.congr LB.out
  have bel8 : Below w.heap.size w w8 := below_only bel7 ow8 lB bel7.size
  clear rA7 rB7 rC7 rF7 bel7 hw8 ow8 sw8 e1 s1 s2 s3 qA qB qC Fe hw6 nw6 hw7 ow7 sw7 rA5 rB5 rC5 bel5
  refine (CG.out _ (HKW.out _ bel8)).mono ?_
  rintro e w9 ⟨rfl, hB⟩
  have rB9 := rB8.old hB; have rF9 := rF8.old hB
  have bel9 : Below w.heap.size w w9 := below_step bel8 bel8.size hB
  have hae : (ae == ae) = true := beq_self_eq_true ae
  have HAE := Lib.hid hae
  clear hB rA8 rB8 rF8 bel8 CG hae
  go_wp2_with (first
    | ((with_reducible refine at_slot 9 ?_); (refine arm_alloc (o := ⟨some 9, _, _, _, _, _⟩) rfl _ rfl (pcs zd zd) z_pair ?_); intro Y w10 Ye hw10 nw10)
    | ((with_reducible refine arm_store (o := ⟨none, _, _, _, _, _⟩) rfl _ _ _ rfl Y 0 rfl (pcs ac bn) rfl _ _ (hw10) (fitP KA.out KB.out) (pcs_one _ _) (sz_pair KA.out KB.out) ?_); intro w11 hw11 ow11 sw11)
    | ((with_reducible refine at_slot 29 ?_); (refine arm_want (.bool false) 29 rfl (by kernel_rfl) (by rw [show (Value.bool false) = .bool (!(ae == ae)) by rw [HAE.out]; rfl]; exact run_op_neqI _ _ .i64 (by kernel_rfl) _ _ rfl .i64 _ _ rfl rfl _) ?_))
    | ((with_reducible refine at_slot 31 ?_); (refine arm_want (num32 b.to) 31 rfl (by kernel_rfl) (run_op_load1 _ _ rfl (.int .u32) (by kernel_rfl) rfl ⟨B, 1, none⟩ rfl (num32 b.to) (by have h := ((rB9.old nw10.below).only ow11 (by have := Ye.out; have := rB9.lt; omega)).cell (show Has (bcs bd) 1 [num32 bd.to] from b_to (Has.refl _)).get; rw [TB.out] at h; exact h)) ?_)))
  have e1 := Ye.out; have s1 := nw10.size; have s2 := sw11.out; have s3 := bel9.size; have s4 := rB9.lt; have s5 := rF9.lt
  have hFY : F ≠ Y := by omega
  have lY : w.heap.size ≤ Y := by omega
  have rF := (rF9.old nw10.below).only ow11 hFY
  have rY := hw11.congr (allP KA.out KB.out)
  have bel : Below w.heap.size w w11 := below_only (below_step bel9 bel9.size nw10.below) ow11 lY (by omega)
  clear e1 s1 s2 s3 s4 s5 Ye hw10 nw10 hw11 ow11 sw11 rB9 rF9 bel9
  refine (Slot.rlocking_nat b.to _ J.out.to).mono ?_
  rintro e y ⟨rfl, rfl⟩
  by_cases hl : b.to % 24 < 16
  · rw [decide_eq_true hl]
    clear hl NB
    have G1 := Lib.hid (show 161 + (u8s an.seed).length ≤ (pcs ac bn).length by rw [h_len KN.out.seed, pcs_len KA.out KB.out]; omega)
    have L1 := Lib.hid (show lay (pcs ac bn) 161 (u8s an.seed) = pcs ac an by rw [lay_nseed KA.out KB.out KN.out.seed, SB.out])
    go_wp2_with (first
      | ((with_reducible refine at_slot 39 ?_); (refine arm_load (o := ⟨some 39, _, _, _, _, _⟩) rfl _ _ rfl F 161 rfl (u8s an.seed) ((show Has (pcs ac an) 161 (u8s an.seed) from d_seed KN.out (p_next KA.out (Has.refl _))).range rF) (szH KN.out.seed) ?_))
      | ((with_reducible refine arm_store (o := ⟨none, _, _, _, _, _⟩) rfl _ _ _ rfl Y 161 rfl (u8s an.seed) rfl _ _ (rY) G1.out (u8s_one _) (szH KN.out.seed) ?_); intro w12 hw12 ow12 sw12)
      | ((with_reducible refine at_slot 42 ?_); (refine arm_load (o := ⟨some 42, _, _, _, _, _⟩) rfl _ _ rfl F 0 rfl (pcs ac an) ((Has.refl _).range (rF.only ow12 hFY)) (sz_pair KA.out KN.out) ?_))
      | ((with_reducible refine at_slot 43 ?_); (refine arm_load (o := ⟨some 43, _, _, _, _, _⟩) rfl _ _ rfl Y 0 rfl (pcs ac an) ((Has.refl _).range (hw12.congr L1.out)) (sz_pair KA.out KN.out) ?_))
      | ((with_reducible refine at_slot 44 ?_); (refine arm_want (.bool true) 44 rfl (by kernel_rfl) (run_op_eqlPair ac an KA.out KN.out _ _ _ rfl rfl rfl _) ?_)))
    go_ret
    exact ⟨rfl, below_only bel ow12 lY bel.size⟩
  · have e2 := NB.out hl
    rw [decide_eq_false hl]
    clear hl
    subst e2
    go_wp2_with (first
      | ((with_reducible refine at_slot 34 ?_); (refine arm_load (o := ⟨some 34, _, _, _, _, _⟩) rfl _ _ rfl F 0 rfl (pcs ac bn) ((Has.refl _).range rF) (sz_pair KA.out KB.out) ?_))
      | ((with_reducible refine at_slot 35 ?_); (refine arm_load (o := ⟨some 35, _, _, _, _, _⟩) rfl _ _ rfl Y 0 rfl (pcs ac bn) ((Has.refl _).range rY) (sz_pair KA.out KB.out) ?_))
      | ((with_reducible refine at_slot 36 ?_); (refine arm_want (.bool true) 36 rfl (by kernel_rfl) (run_op_eqlPair ac bn KA.out KB.out _ _ _ rfl rfl rfl _) ?_)))
    go_ret
    exact ⟨rfl, bel⟩
end Go.Proofs.YtijpgncecfgfdaaDoor.Ep
