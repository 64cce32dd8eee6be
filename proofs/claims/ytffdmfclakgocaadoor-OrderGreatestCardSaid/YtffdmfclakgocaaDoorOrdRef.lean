/-
  The contracts of the document's Hashes, Compare and Of of layer 12. Over this seat's translation.
-/
import Derived.Test.YtffdmfclakgocaaDoorOrdLeaf
import Derived.Test.YtffdmfclakgocaaDoorStaRHash
import Derived.Test.YtffdmfclakgocaaDoorCmp
namespace Go.Proofs.YtffdmfclakgocaaDoor.Od
open Go.ChangeShapes Go.WideShapes Go.ChangeAt Go.RowKit Go.Proofs.YtffdmfclakgocaaDoor.Mem Go.Proofs.YtffdmfclakgocaaDoor.Bt Go.Proofs.YtffdmfclakgocaaDoor.Sl
open Go.Proofs.YtffdmfclakgocaaDoor.Ep (H32 zh zh_ok num32 Has h_len one_app one_num szH zH fitH allH)
open Go.Proofs.YtffdmfclakgocaaDoor.Sha (ks)
open Go.Proofs.YtffdmfclakgocaaDoor.Sa (Sta scs digS digS_ok sz_sta sz_rsta h_drw h_lngth)
set_option linter.unusedVariables false
set_option linter.unusedSimpArgs false

structure HrRel (w : World) (A B : Nat) (x y : List Nat) (i : Value) (wr : World) : Prop where
  ex : ∃ k : Nat, k ≤ 32 ∧ i = .int .i64 (k : Int) ∧ x.take k = y.take k
  ra : Row wr A 23 (u8s x)
  rb : Row wr B 23 (u8s y)
  bel : Below w.heap.size w wr
theorem u8s_at {x : List Nat} {i a : Nat} (h : x[i]? = some a) : (u8s x)[i]? = some (.int .u8 (a : Int)) := by simp [u8s, h]
set_option maxHeartbeats 4000000 in
set_option maxRecDepth 100000 in
theorem rhashes_any (x y : List Nat) (w : World) (k : H32 x) (j : H32 y) :
    Calls Tryd.prog 13 #[.agg (u8s x).toArray, .agg (u8s y).toArray] w fun e w' => e = .returned (.int .i64 (cmpN (val x) (val y))) ∧ Below w.heap.size w w' := by
  have KX := Lib.hid k; have KY := Lib.hid j
  have QL : Hid (∀ i a b, x.take i = y.take i → x[i]? = some a → y[i]? = some b → a < b → cmpN (val x) (val y) = -1) := Lib.hid fun i a b h ha hb hl => cmpN_lt ((hash_at k j h ha hb).1 hl)
  have QG : Hid (∀ i a b, x.take i = y.take i → x[i]? = some a → y[i]? = some b → b < a → cmpN (val x) (val y) = 1) := Lib.hid fun i a b h ha hb hl => cmpN_gt ((hash_at k j h ha hb).2 hl)
  have QE : Hid (x.take 32 = y.take 32 → cmpN (val x) (val y) = 0) := Lib.hid fun h => by
    rw [List.take_of_length_le (by rw [k.len]; omega), List.take_of_length_le (by rw [j.len]; omega)] at h
    rw [h]; exact cmpN_same _
  have GX : Hid (∀ i, i < 32 → ∃ a, x[i]? = some a) := Lib.hid fun i h => ⟨_, List.getElem?_eq_getElem (by rw [k.len]; exact h)⟩
  have GY : Hid (∀ i, i < 32 → ∃ a, y[i]? = some a) := Lib.hid fun i h => ⟨_, List.getElem?_eq_getElem (by rw [j.len]; exact h)⟩
  generalize cmpN (val x) (val y) = z at QL QG QE ⊢
  clear k j
  go_enter Tryd.func13, Tryd.ntmps13
  go_wp2_with (first
    | ((with_reducible refine at_slot 2 ?_); (refine arm_box (o := ⟨some 2, _, _, _, _, _⟩) rfl _ _ rfl (u8s x) rfl ?_); intro A v1 Ae hv1 nv1)
    | ((with_reducible refine at_slot 3 ?_); (refine arm_box (o := ⟨some 3, _, _, _, _, _⟩) rfl _ _ rfl (u8s y) rfl ?_); intro B v2 Be hv2 nv2))
  have q0 := Ae.out
  have q1 := nv1.size
  have q2 := Be.out
  have q3 := nv2.size
  have lA : w.heap.size ≤ A := by omega
  have lB : w.heap.size ≤ B := by omega
  have nAB : A ≠ B := by omega
  have nBA : B ≠ A := by omega
  have rA3 : Row v2 A 23 (u8s x) := (hv1.old nv2.below)
  have rB3 : Row v2 B 23 (u8s y) := hv2
  have bel3 : Below w.heap.size w v2 := (below_step (below_step (Below.refl _ _) (by omega) nv1.below) (by omega) nv2.below)
  clear q0 q1 q2 q3 Ae hv1 nv1 Be hv2 nv2
  have h0 : HrRel w A B x y (.int .i64 0) v2 := ⟨⟨0, by omega, rfl, rfl⟩, rA3, rB3, bel3⟩
  clear rA3 rB3 bel3
  go_loopw [5] (fun i wr => HrRel w A B x y i wr) (fun i _ => 32 - (intOf i).toNat)
  case atStart => exact h0
  case round =>
    clear h0
    obtain ⟨⟨k, hk, rfl, ht⟩, ra, rb, bel⟩ := hrel
    have HT := Lib.hid ht
    clear ht
    by_cases hlt : k < 32
    · obtain ⟨a, ha⟩ := GX.out k hlt
      obtain ⟨b, hb⟩ := GY.out k hlt
      have ca := ra.cell (u8s_at ha); have cb := rb.cell (u8s_at hb)
      have HA := Lib.hid ha; have HB := Lib.hid hb
      have ik : (k : Int) < 32 := by omega
      clear ha hb
      rcases Nat.lt_trichotomy a b with h | h | h
      · skip
        have HQ := Lib.hid (QL.out k a b HT.out HA.out HB.out h)
        have h1 : decide ((a : Int) < (b : Int)) = true := decide_eq_true (by omega)
        have h2 : decide ((a : Int) > (b : Int)) = false := decide_eq_false (by omega)
        have h3 : decide ((b : Int) < (a : Int)) = false := decide_eq_false (by omega)
        have h4 : decide (a < b) = true := decide_eq_true (by omega)
        have h5 : decide (b < a) = false := decide_eq_false (by omega)
        clear h
        go_wp2_with fail
        go_quiet (fail)
        have bq := bel.trans (below_drewN _ wr nq)
        go_wp2_with fail
        rw [HQ.out]
        go_ret
        exact ⟨rfl, bq⟩
      · skip
        have HQ := Lib.hid (show x.take (k + 1) = y.take (k + 1) from take_more HT.out HA.out (by rw [h]; exact HB.out))
        have h1 : decide ((a : Int) < (b : Int)) = false := decide_eq_false (by omega)
        have h2 : decide ((a : Int) > (b : Int)) = false := decide_eq_false (by omega)
        have h3 : decide ((b : Int) < (a : Int)) = false := decide_eq_false (by omega)
        have h4 : decide (a < b) = false := decide_eq_false (by omega)
        have h5 : decide (b < a) = false := decide_eq_false (by omega)
        clear h
        go_wp2_with fail
        go_quiet (fail)
        have bq := bel.trans (below_drewN _ wr nq)
        have raq : Row (wr.drewN nq) A 23 (u8s x) := ra
        have rbq : Row (wr.drewN nq) B 23 (u8s y) := rb
        have caq : (wr.drewN nq).cell? ⟨A, k, none⟩ = some (.int .u8 (a : Int)) := ca
        have cbq : (wr.drewN nq).cell? ⟨B, k, none⟩ = some (.int .u8 (b : Int)) := cb
        clear ra rb ca cb bel
        generalize wr.drewN nq = w5 at raq rbq caq cbq bq ⊢
        go_wp2_with fail
        go_quiet (fail)
        have ra6 : Row (w5.drewN nq) A 23 (u8s x) := raq
        have rb6 : Row (w5.drewN nq) B 23 (u8s y) := rbq
        have bel6 := bq.trans (below_drewN _ w5 nq)
        go_wp2_with fail
        go_roundw
        case rel => exact ⟨⟨k + 1, by omega, by go_num, HQ.out⟩, ra6, rb6, bel6⟩
        case measure => simp [intOf]; omega
      · skip
        have HQ := Lib.hid (QG.out k a b HT.out HA.out HB.out h)
        have h1 : decide ((a : Int) < (b : Int)) = false := decide_eq_false (by omega)
        have h2 : decide ((a : Int) > (b : Int)) = true := decide_eq_true (by omega)
        have h3 : decide ((b : Int) < (a : Int)) = true := decide_eq_true (by omega)
        have h4 : decide (a < b) = false := decide_eq_false (by omega)
        have h5 : decide (b < a) = true := decide_eq_true (by omega)
        clear h
        go_wp2_with fail
        go_quiet (fail)
        have bq := bel.trans (below_drewN _ wr nq)
        have raq : Row (wr.drewN nq) A 23 (u8s x) := ra
        have rbq : Row (wr.drewN nq) B 23 (u8s y) := rb
        have caq : (wr.drewN nq).cell? ⟨A, k, none⟩ = some (.int .u8 (a : Int)) := ca
        have cbq : (wr.drewN nq).cell? ⟨B, k, none⟩ = some (.int .u8 (b : Int)) := cb
        clear ra rb ca cb bel
        generalize wr.drewN nq = w5 at raq rbq caq cbq bq ⊢
        go_wp2_with fail
        go_quiet (fail)
        go_wp2_with fail
        rw [HQ.out]
        go_ret
        exact ⟨rfl, bq.trans (below_drewN _ _ _)⟩
    · obtain rfl : k = 32 := by omega
      have HQ := Lib.hid (QE.out HT.out)
      go_wp2_with fail
      rw [HQ.out]
      go_ret
      exact ⟨rfl, bel⟩
set_option maxHeartbeats 4000000 in
set_option maxRecDepth 100000 in
theorem rcompare_any (a b : Ky) (w : World) (ka : a.Ok) (kb : b.Ok) :
    Calls Tryd.prog 11 #[.agg (kcs a).toArray, .agg (kcs b).toArray] w fun e w' => e = .returned (.int .i64 (kcmp a b)) ∧ Below w.heap.size w w' := by
  have KA := Lib.hid ka; have KB := Lib.hid kb
  have CD := Lib.hid (fun w0 => rhashes_any a.draw b.draw w0 ka.draw kb.draw)
  have CH := Lib.hid (fun w0 => rhashes_any a.hash b.hash w0 ka.hash kb.hash)
  have Q0 := Lib.hid (turn0 ka kb); have Q1 := Lib.hid (turn1 ka kb); have Q2 := Lib.hid (turn2 ka kb)
  generalize kcmp a b = q at Q0 Q1 Q2 ⊢
  by_cases hl : a.len = b.len
  · have h0 : (((a.len : Nat) : Int) != ((b.len : Nat) : Int)) = false := by rw [hl]; simp
    have QZ := cmpN_zero.2 hl
    rw [QZ] at Q0 Q1 Q2
    clear hl Q0
    by_cases hd : a.draw = b.draw
    · have HD : Hid (true = true ↔ a.draw = b.draw) := Lib.hid (iff_of_true rfl hd)
      have HQ := Lib.hid (Q2.out rfl (cmpN_zero.2 (congrArg val hd)))
      clear Q1 Q2 QZ hd ka kb
      clear CD
      generalize cmpN (val a.hash) (val b.hash) = z at CH HQ
      go_enter Tryd.func11, Tryd.ntmps11
      go_wp2_with (first
        | ((with_reducible refine at_slot 2 ?_); (refine arm_box (o := ⟨some 2, _, _, _, _, _⟩) rfl _ _ rfl (kcs a) rfl ?_); intro A v1 Ae hv1 nv1)
        | ((with_reducible refine at_slot 3 ?_); (refine arm_box (o := ⟨some 3, _, _, _, _, _⟩) rfl _ _ rfl (kcs b) rfl ?_); intro B v2 Be hv2 nv2)
        | ((with_reducible refine at_slot 6 ?_); (refine arm_want (.int .u32 (a.len : Int)) 6 rfl (by kernel_rfl) (run_op_load1 _ _ rfl (.int .u32) (by kernel_rfl) rfl ⟨A, 0, none⟩ rfl (.int .u32 (a.len : Int)) ((hv1.old nv2.below).cell (show Has (kcs a) 0 [.int .u32 (a.len : Int)] from k0 a).get)) ?_))
        | ((with_reducible refine at_slot 8 ?_); (refine arm_want (.int .u32 (b.len : Int)) 8 rfl (by kernel_rfl) (run_op_load1 _ _ rfl (.int .u32) (by kernel_rfl) rfl ⟨B, 0, none⟩ rfl (.int .u32 (b.len : Int)) (hv2.cell (show Has (kcs b) 0 [.int .u32 (b.len : Int)] from k0 b).get)) ?_))
        | ((with_reducible refine at_slot 11 ?_); (refine arm_want (.int .u32 (a.len : Int)) 11 rfl (by kernel_rfl) (run_op_load1 _ _ rfl (.int .u32) (by kernel_rfl) rfl ⟨A, 0, none⟩ rfl (.int .u32 (a.len : Int)) ((hv1.old nv2.below).cell (show Has (kcs a) 0 [.int .u32 (a.len : Int)] from k0 a).get)) ?_))
        | ((with_reducible refine at_slot 13 ?_); (refine arm_want (.int .u32 (b.len : Int)) 13 rfl (by kernel_rfl) (run_op_load1 _ _ rfl (.int .u32) (by kernel_rfl) rfl ⟨B, 0, none⟩ rfl (.int .u32 (b.len : Int)) (hv2.cell (show Has (kcs b) 0 [.int .u32 (b.len : Int)] from k0 b).get)) ?_))
        | ((with_reducible refine at_slot 16 ?_); (refine arm_load (o := ⟨some 16, _, _, _, _, _⟩) rfl _ _ rfl A 1 rfl (u8s a.draw) ((show Has (kcs a) 1 (u8s a.draw) from k1 a).range ((hv1.old nv2.below))) (szH KA.out.draw) ?_))
        | ((with_reducible refine at_slot 18 ?_); (refine arm_load (o := ⟨some 18, _, _, _, _, _⟩) rfl _ _ rfl B 1 rfl (u8s b.draw) ((show Has (kcs b) 1 (u8s b.draw) from k1 b).range (hv2)) (szH KB.out.draw) ?_))
        | ((with_reducible refine at_slot 19 ?_); (refine arm_want (.bool false) 19 rfl (by kernel_rfl) (run_op_neqH KA.out.draw KB.out.draw _ _ _ rfl rfl rfl true HD.out _) ?_))
        | ((with_reducible refine at_slot 26 ?_); (refine arm_load (o := ⟨some 26, _, _, _, _, _⟩) rfl _ _ rfl A 33 rfl (u8s a.hash) ((show Has (kcs a) 33 (u8s a.hash) from k33 KA.out).range ((hv1.old nv2.below))) (szH KA.out.hash) ?_))
        | ((with_reducible refine at_slot 28 ?_); (refine arm_load (o := ⟨some 28, _, _, _, _, _⟩) rfl _ _ rfl B 33 rfl (u8s b.hash) ((show Has (kcs b) 33 (u8s b.hash) from k33 KB.out).range (hv2)) (szH KB.out.hash) ?_)))
      have q0 := Ae.out
      have q1 := nv1.size
      have q2 := Be.out
      have q3 := nv2.size
      have lA : w.heap.size ≤ A := by omega
      have lB : w.heap.size ≤ B := by omega
      have nAB : A ≠ B := by omega
      have nBA : B ≠ A := by omega
      have rA3 : Row v2 A 41 (kcs a) := (hv1.old nv2.below)
      have rB3 : Row v2 B 41 (kcs b) := hv2
      have bel3 : Below w.heap.size w v2 := (below_step (below_step (Below.refl _ _) (by omega) nv1.below) (by omega) nv2.below)
      clear q0 q1 q2 q3 Ae hv1 nv1 Be hv2 nv2
      refine (CH.out _).mono ?_
      rintro e y4 ⟨rfl, hB⟩
      have rA4 : Row y4 A 41 (kcs a) := rA3.old hB
      have rB4 : Row y4 B 41 (kcs b) := rB3.old hB
      have bel4 : Below w.heap.size w y4 := below_step bel3 bel3.size hB
      clear hB rA3 rB3 bel3
      go_wp2_with fail
      rw [HQ.out]
      go_ret
      exact ⟨rfl, bel4⟩
    · have HD : Hid (false = true ↔ a.draw = b.draw) := Lib.hid (iff_of_false (by decide) hd)
      have HQ := Lib.hid (Q1.out rfl (fun e => hd ((val_eq ka.draw kb.draw).1 (cmpN_zero.1 e))))
      clear Q1 Q2 QZ hd ka kb
      clear CH
      generalize cmpN (val a.draw) (val b.draw) = z at CD HQ
      go_enter Tryd.func11, Tryd.ntmps11
      go_wp2_with (first
        | ((with_reducible refine at_slot 2 ?_); (refine arm_box (o := ⟨some 2, _, _, _, _, _⟩) rfl _ _ rfl (kcs a) rfl ?_); intro A v1 Ae hv1 nv1)
        | ((with_reducible refine at_slot 3 ?_); (refine arm_box (o := ⟨some 3, _, _, _, _, _⟩) rfl _ _ rfl (kcs b) rfl ?_); intro B v2 Be hv2 nv2)
        | ((with_reducible refine at_slot 6 ?_); (refine arm_want (.int .u32 (a.len : Int)) 6 rfl (by kernel_rfl) (run_op_load1 _ _ rfl (.int .u32) (by kernel_rfl) rfl ⟨A, 0, none⟩ rfl (.int .u32 (a.len : Int)) ((hv1.old nv2.below).cell (show Has (kcs a) 0 [.int .u32 (a.len : Int)] from k0 a).get)) ?_))
        | ((with_reducible refine at_slot 8 ?_); (refine arm_want (.int .u32 (b.len : Int)) 8 rfl (by kernel_rfl) (run_op_load1 _ _ rfl (.int .u32) (by kernel_rfl) rfl ⟨B, 0, none⟩ rfl (.int .u32 (b.len : Int)) (hv2.cell (show Has (kcs b) 0 [.int .u32 (b.len : Int)] from k0 b).get)) ?_))
        | ((with_reducible refine at_slot 11 ?_); (refine arm_want (.int .u32 (a.len : Int)) 11 rfl (by kernel_rfl) (run_op_load1 _ _ rfl (.int .u32) (by kernel_rfl) rfl ⟨A, 0, none⟩ rfl (.int .u32 (a.len : Int)) ((hv1.old nv2.below).cell (show Has (kcs a) 0 [.int .u32 (a.len : Int)] from k0 a).get)) ?_))
        | ((with_reducible refine at_slot 13 ?_); (refine arm_want (.int .u32 (b.len : Int)) 13 rfl (by kernel_rfl) (run_op_load1 _ _ rfl (.int .u32) (by kernel_rfl) rfl ⟨B, 0, none⟩ rfl (.int .u32 (b.len : Int)) (hv2.cell (show Has (kcs b) 0 [.int .u32 (b.len : Int)] from k0 b).get)) ?_))
        | ((with_reducible refine at_slot 16 ?_); (refine arm_load (o := ⟨some 16, _, _, _, _, _⟩) rfl _ _ rfl A 1 rfl (u8s a.draw) ((show Has (kcs a) 1 (u8s a.draw) from k1 a).range ((hv1.old nv2.below))) (szH KA.out.draw) ?_))
        | ((with_reducible refine at_slot 18 ?_); (refine arm_load (o := ⟨some 18, _, _, _, _, _⟩) rfl _ _ rfl B 1 rfl (u8s b.draw) ((show Has (kcs b) 1 (u8s b.draw) from k1 b).range (hv2)) (szH KB.out.draw) ?_))
        | ((with_reducible refine at_slot 19 ?_); (refine arm_want (.bool true) 19 rfl (by kernel_rfl) (run_op_neqH KA.out.draw KB.out.draw _ _ _ rfl rfl rfl false HD.out _) ?_))
        | ((with_reducible refine at_slot 21 ?_); (refine arm_load (o := ⟨some 21, _, _, _, _, _⟩) rfl _ _ rfl A 1 rfl (u8s a.draw) ((show Has (kcs a) 1 (u8s a.draw) from k1 a).range ((hv1.old nv2.below))) (szH KA.out.draw) ?_))
        | ((with_reducible refine at_slot 23 ?_); (refine arm_load (o := ⟨some 23, _, _, _, _, _⟩) rfl _ _ rfl B 1 rfl (u8s b.draw) ((show Has (kcs b) 1 (u8s b.draw) from k1 b).range (hv2)) (szH KB.out.draw) ?_)))
      have q0 := Ae.out
      have q1 := nv1.size
      have q2 := Be.out
      have q3 := nv2.size
      have lA : w.heap.size ≤ A := by omega
      have lB : w.heap.size ≤ B := by omega
      have nAB : A ≠ B := by omega
      have nBA : B ≠ A := by omega
      have rA3 : Row v2 A 41 (kcs a) := (hv1.old nv2.below)
      have rB3 : Row v2 B 41 (kcs b) := hv2
      have bel3 : Below w.heap.size w v2 := (below_step (below_step (Below.refl _ _) (by omega) nv1.below) (by omega) nv2.below)
      clear q0 q1 q2 q3 Ae hv1 nv1 Be hv2 nv2
      refine (CD.out _).mono ?_
      rintro e y4 ⟨rfl, hB⟩
      have rA4 : Row y4 A 41 (kcs a) := rA3.old hB
      have rB4 : Row y4 B 41 (kcs b) := rB3.old hB
      have bel4 : Below w.heap.size w y4 := below_step bel3 bel3.size hB
      clear hB rA3 rB3 bel3
      go_wp2_with fail
      rw [HQ.out]
      go_ret
      exact ⟨rfl, bel4⟩
  · have h0 : (((a.len : Nat) : Int) != ((b.len : Nat) : Int)) = true := by simp; omega
    have HQ := Lib.hid (Q0.out (fun e => hl (cmpN_zero.1 e)))
    clear Q0 Q1 Q2 CD CH ka kb
    rcases Nat.lt_or_gt_of_ne hl with h | h
    · have h1 : decide (((a.len : Nat) : Int) < ((b.len : Nat) : Int)) = true := decide_eq_true (by omega)
      have h2 : decide (a.len < b.len) = true := decide_eq_true (by omega)
      rw [cmpN_lt h] at HQ
      clear h hl
      go_enter Tryd.func11, Tryd.ntmps11
      go_wp2_with (first
        | ((with_reducible refine at_slot 2 ?_); (refine arm_box (o := ⟨some 2, _, _, _, _, _⟩) rfl _ _ rfl (kcs a) rfl ?_); intro A v1 Ae hv1 nv1)
        | ((with_reducible refine at_slot 3 ?_); (refine arm_box (o := ⟨some 3, _, _, _, _, _⟩) rfl _ _ rfl (kcs b) rfl ?_); intro B v2 Be hv2 nv2)
        | ((with_reducible refine at_slot 6 ?_); (refine arm_want (.int .u32 (a.len : Int)) 6 rfl (by kernel_rfl) (run_op_load1 _ _ rfl (.int .u32) (by kernel_rfl) rfl ⟨A, 0, none⟩ rfl (.int .u32 (a.len : Int)) ((hv1.old nv2.below).cell (show Has (kcs a) 0 [.int .u32 (a.len : Int)] from k0 a).get)) ?_))
        | ((with_reducible refine at_slot 8 ?_); (refine arm_want (.int .u32 (b.len : Int)) 8 rfl (by kernel_rfl) (run_op_load1 _ _ rfl (.int .u32) (by kernel_rfl) rfl ⟨B, 0, none⟩ rfl (.int .u32 (b.len : Int)) (hv2.cell (show Has (kcs b) 0 [.int .u32 (b.len : Int)] from k0 b).get)) ?_))
        | ((with_reducible refine at_slot 11 ?_); (refine arm_want (.int .u32 (a.len : Int)) 11 rfl (by kernel_rfl) (run_op_load1 _ _ rfl (.int .u32) (by kernel_rfl) rfl ⟨A, 0, none⟩ rfl (.int .u32 (a.len : Int)) ((hv1.old nv2.below).cell (show Has (kcs a) 0 [.int .u32 (a.len : Int)] from k0 a).get)) ?_))
        | ((with_reducible refine at_slot 13 ?_); (refine arm_want (.int .u32 (b.len : Int)) 13 rfl (by kernel_rfl) (run_op_load1 _ _ rfl (.int .u32) (by kernel_rfl) rfl ⟨B, 0, none⟩ rfl (.int .u32 (b.len : Int)) (hv2.cell (show Has (kcs b) 0 [.int .u32 (b.len : Int)] from k0 b).get)) ?_)))
      have q0 := Ae.out
      have q1 := nv1.size
      have q2 := Be.out
      have q3 := nv2.size
      have lA : w.heap.size ≤ A := by omega
      have lB : w.heap.size ≤ B := by omega
      have nAB : A ≠ B := by omega
      have nBA : B ≠ A := by omega
      have rA3 : Row v2 A 41 (kcs a) := (hv1.old nv2.below)
      have rB3 : Row v2 B 41 (kcs b) := hv2
      have bel3 : Below w.heap.size w v2 := (below_step (below_step (Below.refl _ _) (by omega) nv1.below) (by omega) nv2.below)
      clear q0 q1 q2 q3 Ae hv1 nv1 Be hv2 nv2
      rw [HQ.out]
      go_ret
      exact ⟨rfl, bel3⟩
    · have h1 : decide (((a.len : Nat) : Int) < ((b.len : Nat) : Int)) = false := decide_eq_false (by omega)
      have h2 : decide (a.len < b.len) = false := decide_eq_false (by omega)
      rw [cmpN_gt h] at HQ
      clear h hl
      go_enter Tryd.func11, Tryd.ntmps11
      go_wp2_with (first
        | ((with_reducible refine at_slot 2 ?_); (refine arm_box (o := ⟨some 2, _, _, _, _, _⟩) rfl _ _ rfl (kcs a) rfl ?_); intro A v1 Ae hv1 nv1)
        | ((with_reducible refine at_slot 3 ?_); (refine arm_box (o := ⟨some 3, _, _, _, _, _⟩) rfl _ _ rfl (kcs b) rfl ?_); intro B v2 Be hv2 nv2)
        | ((with_reducible refine at_slot 6 ?_); (refine arm_want (.int .u32 (a.len : Int)) 6 rfl (by kernel_rfl) (run_op_load1 _ _ rfl (.int .u32) (by kernel_rfl) rfl ⟨A, 0, none⟩ rfl (.int .u32 (a.len : Int)) ((hv1.old nv2.below).cell (show Has (kcs a) 0 [.int .u32 (a.len : Int)] from k0 a).get)) ?_))
        | ((with_reducible refine at_slot 8 ?_); (refine arm_want (.int .u32 (b.len : Int)) 8 rfl (by kernel_rfl) (run_op_load1 _ _ rfl (.int .u32) (by kernel_rfl) rfl ⟨B, 0, none⟩ rfl (.int .u32 (b.len : Int)) (hv2.cell (show Has (kcs b) 0 [.int .u32 (b.len : Int)] from k0 b).get)) ?_))
        | ((with_reducible refine at_slot 11 ?_); (refine arm_want (.int .u32 (a.len : Int)) 11 rfl (by kernel_rfl) (run_op_load1 _ _ rfl (.int .u32) (by kernel_rfl) rfl ⟨A, 0, none⟩ rfl (.int .u32 (a.len : Int)) ((hv1.old nv2.below).cell (show Has (kcs a) 0 [.int .u32 (a.len : Int)] from k0 a).get)) ?_))
        | ((with_reducible refine at_slot 13 ?_); (refine arm_want (.int .u32 (b.len : Int)) 13 rfl (by kernel_rfl) (run_op_load1 _ _ rfl (.int .u32) (by kernel_rfl) rfl ⟨B, 0, none⟩ rfl (.int .u32 (b.len : Int)) (hv2.cell (show Has (kcs b) 0 [.int .u32 (b.len : Int)] from k0 b).get)) ?_)))
      have q0 := Ae.out
      have q1 := nv1.size
      have q2 := Be.out
      have q3 := nv2.size
      have lA : w.heap.size ≤ A := by omega
      have lB : w.heap.size ≤ B := by omega
      have nAB : A ≠ B := by omega
      have nBA : B ≠ A := by omega
      have rA3 : Row v2 A 41 (kcs a) := (hv1.old nv2.below)
      have rB3 : Row v2 B 41 (kcs b) := hv2
      have bel3 : Below w.heap.size w v2 := (below_step (below_step (Below.refl _ _) (by omega) nv1.below) (by omega) nv2.below)
      clear q0 q1 q2 q3 Ae hv1 nv1 Be hv2 nv2
      rw [HQ.out]
      go_ret
      exact ⟨rfl, bel3⟩
set_option maxHeartbeats 4000000 in
set_option maxRecDepth 100000 in
theorem rof_any (s : Sta) (w : World) (ok : s.Ok) (hk : w.rangeAt 2 0 (u32s ks)) :
    Calls Tryd.prog 8 #[.agg (scs s).toArray] w fun e w' => e = .returned (.agg (kcs (keyN s)).toArray) ∧ Below w.heap.size w w' := by
  have hk1 : 2 < w.heap.size := range_lt hk (by simp [u32s, ks])
  have HKW : Hid (∀ w', Below w.heap.size w w' → w'.rangeAt 2 0 (u32s ks)) := Lib.hid fun w' hb => range_block hk (hb.block _ hk1)
  have OK := Lib.hid ok
  have KK := Lib.hid (keyN_ok ok)
  have KB := Lib.hid (built_rkey (keyN_ok ok))
  have CH := Lib.hid (fun w0 h => Sa.rhash_any s w0 ok h)
  clear ok hk hk1
  go_enter Tryd.func8, Tryd.ntmps8
  go_wp2_with (first
    | ((with_reducible refine at_slot 1 ?_); (refine arm_box (o := ⟨some 1, _, _, _, _, _⟩) rfl _ _ rfl (scs s) rfl ?_); intro A v1 Ae hv1 nv1)
    | ((with_reducible refine at_slot 2 ?_); (refine arm_alloc (o := ⟨some 2, _, _, _, _, _⟩) rfl _ rfl (kcs zk) z_rkey ?_); intro R v2 Re hv2 nv2))
  have q0 := Ae.out
  have q1 := nv1.size
  have q2 := Re.out
  have q3 := nv2.size
  have lA : w.heap.size ≤ A := by omega
  have lR : w.heap.size ≤ R := by omega
  have nAR : A ≠ R := by omega
  have nRA : R ≠ A := by omega
  have rA3 : Row v2 A 51 (scs s) := (hv1.old nv2.below)
  have rR3 : Row v2 R 41 (kcs zk) := hv2
  have bel3 : Below w.heap.size w v2 := (below_step (below_step (Below.refl _ _) (by omega) nv1.below) (by omega) nv2.below)
  clear q0 q1 q2 q3 Ae hv1 nv1 Re hv2 nv2
  refine wp_region_held (S := fun w' => Row w' A 51 (scs s) ∧ True) (by kernel_rfl) ?_
  change wpAnyH _ _ _ _ _ _ _ _ v2.drew
  have rA4 : Row v2.drew A 51 (scs s) := rA3
  have rR4 : Row v2.drew R 41 (kcs zk) := rR3
  have bel4 : Below w.heap.size w v2.drew := bel3.trans ((Below.refl _ _).drew)
  clear rA3 rR3 bel3
  generalize v2.drew = y4 at rA4 rR4 bel4 ⊢
  refine h_take 0 (.pointer (some ⟨A, 97, none⟩)) rfl 3 rfl (by kernel_rfl) (by kernel_rfl) (by kernel_rfl) (by kernel_rfl) (fun _ _ _ h => h) (fun w' _ => by kernel_rfl) ⟨rA4, trivial⟩ ?_
  simp only [Act.put, List.setIfInBounds_toArray, List.set_cons_zero, List.set_cons_succ]
  refine h_take 1 (num32 s.len) rfl 4 rfl (by kernel_rfl) (by kernel_rfl) (by kernel_rfl) (by kernel_rfl) (fun _ _ _ h => h) (fun w' hw => run_op_load1 _ _ rfl (.int .u32) (by kernel_rfl) rfl ⟨A, 97, none⟩ rfl (num32 s.len) (hw.1.cell (show Has (scs s) 97 [num32 s.len] from h_lngth OK.out).get)) ⟨rA4, trivial⟩ ?_
  simp only [Act.put, List.setIfInBounds_toArray, List.set_cons_zero, List.set_cons_succ]
  refine h_take 2 (.pointer (some ⟨A, 64, none⟩)) rfl 5 rfl (by kernel_rfl) (by kernel_rfl) (by kernel_rfl) (by kernel_rfl) (fun _ _ _ h => h) (fun w' _ => by kernel_rfl) ⟨rA4, trivial⟩ ?_
  simp only [Act.put, List.setIfInBounds_toArray, List.set_cons_zero, List.set_cons_succ]
  refine h_take 3 (.agg (u8s s.draw).toArray) rfl 6 rfl (by kernel_rfl) (by kernel_rfl) (by kernel_rfl) (by kernel_rfl) (fun _ _ _ h => h) (fun w' hw => run_op_load _ _ rfl A 64 rfl (u8s s.draw) ((show Has (scs s) 64 (u8s s.draw) from h_drw OK.out).range hw.1) (szH OK.out.draw)) ⟨rA4, trivial⟩ ?_
  simp only [Act.put, List.setIfInBounds_toArray, List.set_cons_zero, List.set_cons_succ]
  refine h_take 4 (.agg (scs s).toArray) rfl 7 rfl (by kernel_rfl) (by kernel_rfl) (by kernel_rfl) (by kernel_rfl) (fun _ _ _ h => h) (fun w' hw => run_op_load _ _ rfl A 0 rfl (scs s) ((show Has (scs s) 0 (scs s) from Has.refl _).range hw.1) (sz_rsta OK.out)) ⟨rA4, trivial⟩ ?_
  simp only [Act.put, List.setIfInBounds_toArray, List.set_cons_zero, List.set_cons_succ]
  refine h_one (i := 5) (by kernel_rfl) (o_call rfl 8 rfl (by kernel_rfl) (run_op_call 18 _ _ rfl #[.agg (scs s).toArray] (by simp only [List.map_toArray, List.map_cons, List.map_nil]; rfl) Tryd.func18 (by kernel_rfl) (by kernel_rfl) _) (CH.out y4 (HKW.out _ bel4)) ?_)
  rintro e y5 ⟨rfl, hB⟩
  have rA5 : Row y5 A 51 (scs s) := rA4.old hB
  have rR5 : Row y5 R 41 (kcs zk) := rR4.old hB
  have bel5 : Below w.heap.size w y5 := below_step bel4 bel4.size hB
  clear hB rA4 rR4 bel4
  refine ⟨_, rfl, ⟨rA5, trivial⟩, ?_⟩
  simp only [Act.put, List.setIfInBounds_toArray, List.set_cons_zero, List.set_cons_succ]
  refine h_take 6 (.agg (kcs (keyN s)).toArray) rfl 9 rfl (by kernel_rfl) (by kernel_rfl) (by kernel_rfl) (by kernel_rfl) (fun _ _ _ h => h) (fun w' hw => run_op_build _ _ rfl (kcs (keyN s)) (by simp only [List.map_toArray, List.map_cons, List.map_nil]; exact KB.out) w') ⟨rA5, trivial⟩ ?_
  simp only [Act.put, List.setIfInBounds_toArray, List.set_cons_zero, List.set_cons_succ]
  refine h_one (i := 7) (by kernel_rfl) (o_skip rfl rfl (by kernel_rfl) (run_op_store _ _ _ rfl R 0 rfl (kcs (keyN s)) rfl _ _ rR5 (fitK KK.out) (kcs_one _) (sz_rkey KK.out)) ?_)
  have rq := row_setRow rR5 (lay (kcs zk) 0 (kcs (keyN s)))
  have oq := Only.setRow R y5 (lay (kcs zk) 0 (kcs (keyN s))).toArray
  generalize y5.setRow R (lay (kcs zk) 0 (kcs (keyN s))).toArray = y6 at rq oq ⊢
  have rA6 : Row y6 A 51 (scs s) := rA5.only oq nAR
  have rR6 : Row y6 R 41 (kcs (keyN s)) := rq.congr (allK KK.out)
  have bel6 : Below w.heap.size w y6 := below_only bel5 oq lR bel5.size
  clear rA5 rR5 rq bel5 oq
  refine ⟨⟨rA6, trivial⟩, ?_⟩
  refine wpAnyH_done (by kernel_rfl) ?_ _
  go_wp2_with fail
  exact bodyPost_ret (v := .agg (kcs (keyN s)).toArray) (result_row (p := 2) (ty := 41) (u := 41) (by kernel_rfl) _ _ R (kcs (keyN s)) rfl rR6 (sz_rkey KK.out)) rfl ⟨rfl, bel6⟩
end Go.Proofs.YtffdmfclakgocaaDoor.Od
