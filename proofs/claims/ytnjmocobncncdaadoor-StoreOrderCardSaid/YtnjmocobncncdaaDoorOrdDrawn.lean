/-
  The contracts of order's Hashes and Compare once more, with how often was drawn: never less than ahead. Over this seat's translation.
-/
import Derived.Test.YtnjmocobncncdaaDoorOrdAll
import Derived.Sort.Grow
import Derived.Deep.Draws
namespace Go.Proofs.YtnjmocobncncdaaDoor.Mem
open Go.RowKit
open Go.Sort (grow)
/-- Nothing that lay ahead has changed, and drawn was on. -/
structure BelD (B : Nat) (w w' : World) : Prop where
  below : Below B w w'
  drawn : w.drawn ≤ w'.drawn
theorem BelD.refl (B : Nat) (w : World) : BelD B w w := ⟨Below.refl _ _, Nat.le_refl _⟩
theorem BelD.size {B : Nat} {w w' : World} (h : BelD B w w') : w.heap.size ≤ w'.heap.size := h.below.size
theorem BelD.drew {B : Nat} {w w' : World} (h : BelD B w w') : BelD B w w'.drew := ⟨h.below.drew, Nat.le_succ_of_le h.drawn⟩
theorem BelD.trans {B : Nat} {w w1 w2 : World} (h : BelD B w w1) (g : BelD B w1 w2) : BelD B w w2 := ⟨h.below.trans g.below, Nat.le_trans h.drawn g.drawn⟩
theorem beld_step {b : Nat} {w w1 w2 : World} (h : BelD b w w1) (hb : b ≤ w1.heap.size) (g : BelD w1.heap.size w1 w2) : BelD b w w2 := ⟨below_step h.below hb g.below, Nat.le_trans h.drawn g.drawn⟩
theorem New.beld {w w' : World} (h : New w w') : BelD w.heap.size w w' := ⟨h.below, Nat.le_of_eq h.drawn.symm⟩
theorem BelD.grown {w w' : World} (h : BelD w.heap.size w w') : ∃ q os, w' = grow (w.drewN q) os := by
  refine ⟨w'.drawn - w.drawn, w'.heap.extract w.heap.size w'.heap.size, ?_⟩
  obtain ⟨hb, hd⟩ := h
  obtain ⟨heap', tape', drawn', os', output'⟩ := w'
  have e1 : os' = w.os := hb.os
  have e2 : tape' = w.tape := hb.tape
  have e3 : output' = w.output := hb.output
  have hs : w.heap.size ≤ heap'.size := hb.size
  have hk : ∀ k, k < w.heap.size → heap'[k]? = w.heap[k]? := hb.block
  have hd' : w.drawn ≤ drawn' := hd
  subst e1 e2 e3
  have eh : heap' = w.heap ++ heap'.extract w.heap.size heap'.size := by
    apply Array.ext_getElem?
    intro k
    by_cases q : k < w.heap.size
    · rw [Array.getElem?_append_left q]; exact hk k q
    · rw [Array.getElem?_append_right (by omega), Array.getElem?_extract]
      by_cases q2 : k < heap'.size
      · rw [if_pos (by omega)]; congr 1; omega
      · rw [if_neg (by omega), Array.getElem?_eq_none (by omega)]
  simp only [grow, World.drewN]
  congr 1
  show drawn' = w.drawn + (drawn' - w.drawn)
  omega
end Go.Proofs.YtnjmocobncncdaaDoor.Mem
namespace Go.Proofs.YtnjmocobncncdaaDoor.Od
open Go.ChangeShapes Go.WideShapes Go.ChangeAt Go.RowKit Go.Proofs.YtnjmocobncncdaaDoor.Mem Go.Proofs.YtnjmocobncncdaaDoor.Bt Go.Proofs.YtnjmocobncncdaaDoor.Sl
open Go.Proofs.YtnjmocobncncdaaDoor.Ep (H32 zh zh_ok num32 Has h_len one_app one_num szH zH fitH allH)
open Go.Proofs.YtnjmocobncncdaaDoor.Sha (ks)
open Go.Proofs.YtnjmocobncncdaaDoor.Sa (Sta scs digS digS_ok)
set_option linter.unusedVariables false
set_option linter.unusedSimpArgs false

set_option maxHeartbeats 4000000 in
set_option maxRecDepth 100000 in
theorem hashes_anyD (x y : List Nat) (w : World) (k : H32 x) (j : H32 y) :
    Calls Tryd.prog 42 #[.agg (u8s x).toArray, .agg (u8s y).toArray] w fun e w' => e = .returned (.int .i64 (cmpN (val x) (val y))) ∧ BelD w.heap.size w w' := by
  have CB := Lib.hid (fun b o b' o' w0 hx hy => bcmp_any x y k j b o b' o' w0 hx hy)
  generalize cmpN (val x) (val y) = z at CB ⊢
  clear k j
  go_enter Tryd.func42, Tryd.ntmps42
  go_wp2_with (first
    | ((with_reducible refine at_slot 2 ?_); (refine arm_box (o := ⟨some 2, _, _, _, _, _⟩) rfl _ _ rfl (u8s x) rfl ?_); intro A v1 Ae hv1 nv1)
    | ((with_reducible refine at_slot 3 ?_); (refine arm_box (o := ⟨some 3, _, _, _, _, _⟩) rfl _ _ rfl (u8s y) rfl ?_); intro B v2 Be hv2 nv2))
  have q0 := Ae.out
  have q1 := nv1.size
  have q2 := Be.out
  have q3 := nv2.size
  have lA : w.heap.size ≤ A := by omega
  have lB : w.heap.size ≤ B := by omega
  have nAB : A ≠ B := by omega
  have nBA : B ≠ A := by omega
  have rA3 : Row v2 A 29 (u8s x) := (hv1.old nv2.below)
  have rB3 : Row v2 B 29 (u8s y) := hv2
  have bel3 : BelD w.heap.size w v2 := (beld_step (beld_step (BelD.refl _ _) (by omega) nv1.beld) (by omega) nv2.beld)
  clear q0 q1 q2 q3 Ae hv1 nv1 Be hv2 nv2
  refine wp_region_quiet (C := fun w' => BelD v2.heap.size v2 w') (by kernel_rfl) (by kernel_rfl) ((BelD.refl _ _).drew) ?_
  rw [List.toList_toArray]
  refine q_value 5 rfl (.slice (some ⟨A, 0, none⟩) 32 32) (by kernel_rfl) (fun w' _ => run_op_sliceAll _ _ rfl 32 5 (by kernel_rfl) (by kernel_rfl) A 0 rfl (by omega) w') ?_
  simp only [Act.put, List.setIfInBounds_toArray, List.set_cons_zero, List.set_cons_succ]
  refine q_value 6 rfl (.slice (some ⟨B, 0, none⟩) 32 32) (by kernel_rfl) (fun w' _ => run_op_sliceAll _ _ rfl 32 5 (by kernel_rfl) (by kernel_rfl) B 0 rfl (by omega) w') ?_
  simp only [Act.put, List.setIfInBounds_toArray, List.set_cons_zero, List.set_cons_succ]
  refine q_call 7 rfl (.int .i64 z) 55 #[.slice (some ⟨A, 0, none⟩) 32 32, .slice (some ⟨B, 0, none⟩) 32 32] (by kernel_rfl) (fun w' _ => run_op_call _ _ _ rfl _ (by simp only [List.map_toArray, List.map_cons, List.map_nil]; rfl) Tryd.func55 (by kernel_rfl) (by kernel_rfl) w') (fun w' hC => (CB.out A 0 B 0 w' ((Has.refl _).range (rA3.old hC.below)) ((Has.refl _).range (rB3.old hC.below))).mono fun e w'' h => ⟨h.1, h.2 ▸ hC⟩) ?_
  simp only [Act.put, List.setIfInBounds_toArray, List.set_cons_zero, List.set_cons_succ]
  refine q_value 4 rfl (.int .i64 z) (by kernel_rfl) (fun w' _ => by kernel_rfl) ?_
  simp only [Act.put, List.setIfInBounds_toArray, List.set_cons_zero, List.set_cons_succ]
  refine wpQuiet_nil ?_
  intro w2 hC
  go_wp2_with fail
  go_ret
  exact ⟨rfl, beld_step bel3 bel3.size hC⟩
set_option maxHeartbeats 4000000 in
set_option maxRecDepth 100000 in
theorem byLen_anyD (a b : Ky) (w : World) (ka : a.Ok) (kb : b.Ok) :
    Calls Tryd.prog 27 #[.agg (kcs a).toArray, .agg (kcs b).toArray] w fun e w' => e = .returned (.int .i64 (cmpN a.len b.len)) ∧ BelD w.heap.size w w' := by
  have KA := Lib.hid ka; have KB := Lib.hid kb
  have CC := Lib.hid (fun w0 => cmpu_any a.len b.len w0)
  generalize cmpN a.len b.len = z at CC ⊢
  clear ka kb
  go_enter Tryd.func27, Tryd.ntmps27
  go_wp2_with (first
    | ((with_reducible refine at_slot 2 ?_); (refine arm_box (o := ⟨some 2, _, _, _, _, _⟩) rfl _ _ rfl (kcs a) rfl ?_); intro A v1 Ae hv1 nv1)
    | ((with_reducible refine at_slot 3 ?_); (refine arm_box (o := ⟨some 3, _, _, _, _, _⟩) rfl _ _ rfl (kcs b) rfl ?_); intro B v2 Be hv2 nv2)
    | ((with_reducible refine at_slot 6 ?_); (refine arm_want (num32 a.len) 6 rfl (by kernel_rfl) (run_op_load1 _ _ rfl (.int .u32) (by kernel_rfl) rfl ⟨A, 0, none⟩ rfl (num32 a.len) ((hv1.old nv2.below).cell (show Has (kcs a) 0 [num32 a.len] from k0 a).get)) ?_))
    | ((with_reducible refine at_slot 8 ?_); (refine arm_want (num32 b.len) 8 rfl (by kernel_rfl) (run_op_load1 _ _ rfl (.int .u32) (by kernel_rfl) rfl ⟨B, 0, none⟩ rfl (num32 b.len) (hv2.cell (show Has (kcs b) 0 [num32 b.len] from k0 b).get)) ?_)))
  have q0 := Ae.out
  have q1 := nv1.size
  have q2 := Be.out
  have q3 := nv2.size
  have lA : w.heap.size ≤ A := by omega
  have lB : w.heap.size ≤ B := by omega
  have nAB : A ≠ B := by omega
  have nBA : B ≠ A := by omega
  have rA3 : Row v2 A 54 (kcs a) := (hv1.old nv2.below)
  have rB3 : Row v2 B 54 (kcs b) := hv2
  have bel3 : BelD w.heap.size w v2 := (beld_step (beld_step (BelD.refl _ _) (by omega) nv1.beld) (by omega) nv2.beld)
  clear q0 q1 q2 q3 Ae hv1 nv1 Be hv2 nv2
  refine (CC.out _).mono ?_
  rintro e4 z4 ⟨rfl, rfl⟩
  go_wp2_with fail
  go_ret
  exact ⟨rfl, bel3⟩
set_option maxHeartbeats 4000000 in
set_option maxRecDepth 100000 in
theorem byDraw_anyD (a b : Ky) (w : World) (ka : a.Ok) (kb : b.Ok) :
    Calls Tryd.prog 28 #[.agg (kcs a).toArray, .agg (kcs b).toArray] w fun e w' => e = .returned (.int .i64 (cmpN (val a.draw) (val b.draw))) ∧ BelD w.heap.size w w' := by
  have KA := Lib.hid ka; have KB := Lib.hid kb
  have CC := Lib.hid (fun w0 => hashes_anyD a.draw b.draw w0 ka.draw kb.draw)
  generalize cmpN (val a.draw) (val b.draw) = z at CC ⊢
  clear ka kb
  go_enter Tryd.func28, Tryd.ntmps28
  go_wp2_with (first
    | ((with_reducible refine at_slot 2 ?_); (refine arm_box (o := ⟨some 2, _, _, _, _, _⟩) rfl _ _ rfl (kcs a) rfl ?_); intro A v1 Ae hv1 nv1)
    | ((with_reducible refine at_slot 3 ?_); (refine arm_box (o := ⟨some 3, _, _, _, _, _⟩) rfl _ _ rfl (kcs b) rfl ?_); intro B v2 Be hv2 nv2)
    | ((with_reducible refine at_slot 6 ?_); (refine arm_load (o := ⟨some 6, _, _, _, _, _⟩) rfl _ _ rfl A 1 rfl (u8s a.draw) ((show Has (kcs a) 1 (u8s a.draw) from k1 a).range ((hv1.old nv2.below))) (szH KA.out.draw) ?_))
    | ((with_reducible refine at_slot 8 ?_); (refine arm_load (o := ⟨some 8, _, _, _, _, _⟩) rfl _ _ rfl B 1 rfl (u8s b.draw) ((show Has (kcs b) 1 (u8s b.draw) from k1 b).range (hv2)) (szH KB.out.draw) ?_)))
  have q0 := Ae.out
  have q1 := nv1.size
  have q2 := Be.out
  have q3 := nv2.size
  have lA : w.heap.size ≤ A := by omega
  have lB : w.heap.size ≤ B := by omega
  have nAB : A ≠ B := by omega
  have nBA : B ≠ A := by omega
  have rA3 : Row v2 A 54 (kcs a) := (hv1.old nv2.below)
  have rB3 : Row v2 B 54 (kcs b) := hv2
  have bel3 : BelD w.heap.size w v2 := (beld_step (beld_step (BelD.refl _ _) (by omega) nv1.beld) (by omega) nv2.beld)
  clear q0 q1 q2 q3 Ae hv1 nv1 Be hv2 nv2
  refine (CC.out _).mono ?_
  rintro e y4 ⟨rfl, hB⟩
  have rA4 : Row y4 A 54 (kcs a) := rA3.old hB.below
  have rB4 : Row y4 B 54 (kcs b) := rB3.old hB.below
  have bel4 : BelD w.heap.size w y4 := beld_step bel3 bel3.size hB
  clear hB rA3 rB3 bel3
  go_wp2_with fail
  go_ret
  exact ⟨rfl, bel4⟩
set_option maxHeartbeats 4000000 in
set_option maxRecDepth 100000 in
theorem byHash_anyD (a b : Ky) (w : World) (ka : a.Ok) (kb : b.Ok) :
    Calls Tryd.prog 29 #[.agg (kcs a).toArray, .agg (kcs b).toArray] w fun e w' => e = .returned (.int .i64 (cmpN (val a.hash) (val b.hash))) ∧ BelD w.heap.size w w' := by
  have KA := Lib.hid ka; have KB := Lib.hid kb
  have CC := Lib.hid (fun w0 => hashes_anyD a.hash b.hash w0 ka.hash kb.hash)
  generalize cmpN (val a.hash) (val b.hash) = z at CC ⊢
  clear ka kb
  go_enter Tryd.func29, Tryd.ntmps29
  go_wp2_with (first
    | ((with_reducible refine at_slot 2 ?_); (refine arm_box (o := ⟨some 2, _, _, _, _, _⟩) rfl _ _ rfl (kcs a) rfl ?_); intro A v1 Ae hv1 nv1)
    | ((with_reducible refine at_slot 3 ?_); (refine arm_box (o := ⟨some 3, _, _, _, _, _⟩) rfl _ _ rfl (kcs b) rfl ?_); intro B v2 Be hv2 nv2)
    | ((with_reducible refine at_slot 6 ?_); (refine arm_load (o := ⟨some 6, _, _, _, _, _⟩) rfl _ _ rfl A 33 rfl (u8s a.hash) ((show Has (kcs a) 33 (u8s a.hash) from k33 KA.out).range ((hv1.old nv2.below))) (szH KA.out.hash) ?_))
    | ((with_reducible refine at_slot 8 ?_); (refine arm_load (o := ⟨some 8, _, _, _, _, _⟩) rfl _ _ rfl B 33 rfl (u8s b.hash) ((show Has (kcs b) 33 (u8s b.hash) from k33 KB.out).range (hv2)) (szH KB.out.hash) ?_)))
  have q0 := Ae.out
  have q1 := nv1.size
  have q2 := Be.out
  have q3 := nv2.size
  have lA : w.heap.size ≤ A := by omega
  have lB : w.heap.size ≤ B := by omega
  have nAB : A ≠ B := by omega
  have nBA : B ≠ A := by omega
  have rA3 : Row v2 A 54 (kcs a) := (hv1.old nv2.below)
  have rB3 : Row v2 B 54 (kcs b) := hv2
  have bel3 : BelD w.heap.size w v2 := (beld_step (beld_step (BelD.refl _ _) (by omega) nv1.beld) (by omega) nv2.beld)
  clear q0 q1 q2 q3 Ae hv1 nv1 Be hv2 nv2
  refine (CC.out _).mono ?_
  rintro e y4 ⟨rfl, hB⟩
  have rA4 : Row y4 A 54 (kcs a) := rA3.old hB.below
  have rB4 : Row y4 B 54 (kcs b) := rB3.old hB.below
  have bel4 : BelD w.heap.size w y4 := beld_step bel3 bel3.size hB
  clear hB rA3 rB3 bel3
  go_wp2_with fail
  go_ret
  exact ⟨rfl, bel4⟩
structure ItRelD (w : World) (A B : Nat) (a b : Ky) (z0 z1 z2 : Int) (i : Value) (wr : World) : Prop where
  ex : i = .int .i64 0 ∨ (i = .int .i64 1 ∧ z0 = 0) ∨ (i = .int .i64 2 ∧ z0 = 0 ∧ z1 = 0) ∨ (i = .int .i64 3 ∧ z0 = 0 ∧ z1 = 0 ∧ z2 = 0)
  ra : Row wr A 54 (kcs a)
  rb : Row wr B 54 (kcs b)
  bel : BelD w.heap.size w wr
set_option maxHeartbeats 4000000 in
set_option maxRecDepth 100000 in
theorem inTurn_anyD (a b : Ky) (P : Nat) (w : World) (ka : a.Ok) (kb : b.Ok) (hP : Row w P 56 fns) :
    Calls Tryd.prog 26 #[.agg (kcs a).toArray, .agg (kcs b).toArray, .slice (some ⟨P, 0, none⟩) 3 3] w fun e w' => e = .returned (.int .i64 (kcmp a b)) ∧ BelD w.heap.size w w' := by
  have KA := Lib.hid ka; have KB := Lib.hid kb
  have FN : Hid (∀ w', Below w.heap.size w w' → Row w' P 56 fns) := Lib.hid fun w' hb => hP.old hb
  have C0 := Lib.hid (fun w0 => byLen_anyD a b w0 ka kb)
  have C1 := Lib.hid (fun w0 => byDraw_anyD a b w0 ka kb)
  have C2 := Lib.hid (fun w0 => byHash_anyD a b w0 ka kb)
  have Q0 := Lib.hid (turn0 ka kb); have Q1 := Lib.hid (turn1 ka kb); have Q2 := Lib.hid (turn2 ka kb)
  generalize kcmp a b = q at Q0 Q1 Q2 ⊢
  generalize cmpN a.len b.len = z0 at C0 Q0 Q1 Q2
  generalize cmpN (val a.draw) (val b.draw) = z1 at C1 Q1 Q2
  generalize cmpN (val a.hash) (val b.hash) = z2 at C2 Q2
  clear ka kb hP
  go_enter Tryd.func26, Tryd.ntmps26
  go_wp2_with (first
    | ((with_reducible refine at_slot 3 ?_); (refine arm_box (o := ⟨some 3, _, _, _, _, _⟩) rfl _ _ rfl (kcs a) rfl ?_); intro A v1 Ae hv1 nv1)
    | ((with_reducible refine at_slot 4 ?_); (refine arm_box (o := ⟨some 4, _, _, _, _, _⟩) rfl _ _ rfl (kcs b) rfl ?_); intro B v2 Be hv2 nv2))
  have q0 := Ae.out
  have q1 := nv1.size
  have q2 := Be.out
  have q3 := nv2.size
  have lA : w.heap.size ≤ A := by omega
  have lB : w.heap.size ≤ B := by omega
  have nAB : A ≠ B := by omega
  have nBA : B ≠ A := by omega
  have rA3 : Row v2 A 54 (kcs a) := (hv1.old nv2.below)
  have rB3 : Row v2 B 54 (kcs b) := hv2
  have bel3 : BelD w.heap.size w v2 := (beld_step (beld_step (BelD.refl _ _) (by omega) nv1.beld) (by omega) nv2.beld)
  clear q0 q1 q2 q3 Ae hv1 nv1 Be hv2 nv2
  have h0 : ItRelD w A B a b z0 z1 z2 (.int .i64 0) v2 := ⟨.inl rfl, rA3, rB3, bel3⟩
  clear rA3 rB3 bel3
  go_loopw [12] (fun i wr => ItRelD w A B a b z0 z1 z2 i wr) (fun i _ => 3 - (intOf i).toNat)
  case atStart => exact h0
  case round =>
    clear h0
    obtain ⟨hex, ra, rb, bel⟩ := hrel
    have FP := FN.out _ bel.below
    rcases hex with rfl | ⟨rfl, rfl⟩ | ⟨rfl, rfl, rfl⟩ | ⟨rfl, rfl, rfl, rfl⟩
    · skip
      go_wp2_with (first
        | ((with_reducible refine at_slot 15 ?_); (refine arm_want (.func (.func 27) #[] #[]) 15 rfl (by kernel_rfl) (run_op_load1 _ _ rfl (.func #[54, 54] #[3] false) (by kernel_rfl) rfl ⟨P, 0, none⟩ rfl (.func (.func 27) #[] #[]) (FP.cell rfl)) ?_))
        | ((with_reducible refine at_slot 17 ?_); (refine arm_load (o := ⟨some 17, _, _, _, _, _⟩) rfl _ _ rfl A 0 rfl (kcs a) ((show Has (kcs a) 0 (kcs a) from Has.refl _).range (ra)) (sz_key KA.out) ?_))
        | ((with_reducible refine at_slot 18 ?_); (refine arm_load (o := ⟨some 18, _, _, _, _, _⟩) rfl _ _ rfl B 0 rfl (kcs b) ((show Has (kcs b) 0 (kcs b) from Has.refl _).range (rb)) (sz_key KB.out) ?_)))
      clear FP
      refine (C0.out _).mono ?_
      rintro e y101 ⟨rfl, hB⟩
      have rA101 : Row y101 A 54 (kcs a) := ra.old hB.below
      have rB101 : Row y101 B 54 (kcs b) := rb.old hB.below
      have bel101 : BelD w.heap.size w y101 := beld_step bel bel.size hB
      clear hB ra rb bel
      by_cases hz : z0 = 0
      · subst hz
        go_wp2_with fail
        try simp only [Act.put]
        go_roundw
        case rel => exact ⟨.inr (.inl ⟨rfl, rfl⟩), rA101, rB101, bel101⟩
        case measure => decide
      · have hz1 : (z0 == 0) = false := beq_eq_false_iff_ne.2 hz
        have hz2 : (z0 != 0) = true := bne_iff_ne.2 hz
        have HQ := Lib.hid (Q0.out hz)
        clear hz Q0 Q1 Q2
        go_wp2_with fail
        rw [HQ.out]
        go_ret
        exact ⟨rfl, bel101⟩
    · skip
      go_wp2_with (first
        | ((with_reducible refine at_slot 15 ?_); (refine arm_want (.func (.func 28) #[] #[]) 15 rfl (by kernel_rfl) (run_op_load1 _ _ rfl (.func #[54, 54] #[3] false) (by kernel_rfl) rfl ⟨P, 1, none⟩ rfl (.func (.func 28) #[] #[]) (FP.cell rfl)) ?_))
        | ((with_reducible refine at_slot 17 ?_); (refine arm_load (o := ⟨some 17, _, _, _, _, _⟩) rfl _ _ rfl A 0 rfl (kcs a) ((show Has (kcs a) 0 (kcs a) from Has.refl _).range (ra)) (sz_key KA.out) ?_))
        | ((with_reducible refine at_slot 18 ?_); (refine arm_load (o := ⟨some 18, _, _, _, _, _⟩) rfl _ _ rfl B 0 rfl (kcs b) ((show Has (kcs b) 0 (kcs b) from Has.refl _).range (rb)) (sz_key KB.out) ?_)))
      clear FP
      refine (C1.out _).mono ?_
      rintro e y101 ⟨rfl, hB⟩
      have rA101 : Row y101 A 54 (kcs a) := ra.old hB.below
      have rB101 : Row y101 B 54 (kcs b) := rb.old hB.below
      have bel101 : BelD w.heap.size w y101 := beld_step bel bel.size hB
      clear hB ra rb bel
      by_cases hz : z1 = 0
      · subst hz
        go_wp2_with fail
        try simp only [Act.put]
        go_roundw
        case rel => exact ⟨.inr (.inr (.inl ⟨rfl, rfl, rfl⟩)), rA101, rB101, bel101⟩
        case measure => decide
      · have hz1 : (z1 == 0) = false := beq_eq_false_iff_ne.2 hz
        have hz2 : (z1 != 0) = true := bne_iff_ne.2 hz
        have HQ := Lib.hid (Q1.out (by first | rfl | trivial) hz)
        clear hz Q0 Q1 Q2
        go_wp2_with fail
        rw [HQ.out]
        go_ret
        exact ⟨rfl, bel101⟩
    · skip
      go_wp2_with (first
        | ((with_reducible refine at_slot 15 ?_); (refine arm_want (.func (.func 29) #[] #[]) 15 rfl (by kernel_rfl) (run_op_load1 _ _ rfl (.func #[54, 54] #[3] false) (by kernel_rfl) rfl ⟨P, 2, none⟩ rfl (.func (.func 29) #[] #[]) (FP.cell rfl)) ?_))
        | ((with_reducible refine at_slot 17 ?_); (refine arm_load (o := ⟨some 17, _, _, _, _, _⟩) rfl _ _ rfl A 0 rfl (kcs a) ((show Has (kcs a) 0 (kcs a) from Has.refl _).range (ra)) (sz_key KA.out) ?_))
        | ((with_reducible refine at_slot 18 ?_); (refine arm_load (o := ⟨some 18, _, _, _, _, _⟩) rfl _ _ rfl B 0 rfl (kcs b) ((show Has (kcs b) 0 (kcs b) from Has.refl _).range (rb)) (sz_key KB.out) ?_)))
      clear FP
      refine (C2.out _).mono ?_
      rintro e y101 ⟨rfl, hB⟩
      have rA101 : Row y101 A 54 (kcs a) := ra.old hB.below
      have rB101 : Row y101 B 54 (kcs b) := rb.old hB.below
      have bel101 : BelD w.heap.size w y101 := beld_step bel bel.size hB
      clear hB ra rb bel
      by_cases hz : z2 = 0
      · subst hz
        go_wp2_with fail
        try simp only [Act.put]
        go_roundw
        case rel => exact ⟨.inr (.inr (.inr ⟨rfl, rfl, rfl, rfl⟩)), rA101, rB101, bel101⟩
        case measure => decide
      · have hz1 : (z2 == 0) = false := beq_eq_false_iff_ne.2 hz
        have hz2 : (z2 != 0) = true := bne_iff_ne.2 hz
        have HQ := Lib.hid (Q2.out (by first | rfl | trivial) (by first | rfl | trivial))
        clear hz Q0 Q1 Q2
        go_wp2_with fail
        rw [HQ.out]
        go_ret
        exact ⟨rfl, bel101⟩
    · skip
      have HQ := Lib.hid (Q2.out rfl rfl)
      go_wp2_with fail
      rw [HQ.out]
      go_ret
      exact ⟨rfl, bel⟩
set_option maxHeartbeats 4000000 in
set_option maxRecDepth 100000 in
theorem compare_anyD (a b : Ky) (w : World) (ka : a.Ok) (kb : b.Ok) :
    Calls Tryd.prog 15 #[.agg (kcs a).toArray, .agg (kcs b).toArray] w fun e w' => e = .returned (.int .i64 (kcmp a b)) ∧ BelD w.heap.size w w' := by
  have KA := Lib.hid ka; have KB := Lib.hid kb
  have CT := Lib.hid (fun P w0 h => inTurn_anyD a b P w0 ka kb h)
  generalize kcmp a b = q at CT ⊢
  clear ka kb
  go_enter Tryd.func15, Tryd.ntmps15
  go_wp2_with (first
    | ((with_reducible refine at_slot 2 ?_); (refine arm_box (o := ⟨some 2, _, _, _, _, _⟩) rfl _ _ rfl (kcs a) rfl ?_); intro A v1 Ae hv1 nv1)
    | ((with_reducible refine at_slot 3 ?_); (refine arm_box (o := ⟨some 3, _, _, _, _, _⟩) rfl _ _ rfl (kcs b) rfl ?_); intro B v2 Be hv2 nv2)
    | ((with_reducible refine at_slot 5 ?_); (refine arm_load (o := ⟨some 5, _, _, _, _, _⟩) rfl _ _ rfl A 0 rfl (kcs a) ((show Has (kcs a) 0 (kcs a) from Has.refl _).range ((hv1.old nv2.below))) (sz_key KA.out) ?_))
    | ((with_reducible refine at_slot 6 ?_); (refine arm_load (o := ⟨some 6, _, _, _, _, _⟩) rfl _ _ rfl B 0 rfl (kcs b) ((show Has (kcs b) 0 (kcs b) from Has.refl _).range (hv2)) (sz_key KB.out) ?_))
    | ((with_reducible refine at_slot 7 ?_); (refine arm_fns (o := ⟨some 7, _, _, _, _, _⟩) rfl _ rfl (by simp only [List.map_toArray, List.map_cons, List.map_nil]; rfl) ?_); intro F v3 Fe hv3 nv3))
  have q0 := Ae.out
  have q1 := nv1.size
  have q2 := Be.out
  have q3 := nv2.size
  have q4 := Fe.out
  have q5 := nv3.size
  have lA : w.heap.size ≤ A := by omega
  have lB : w.heap.size ≤ B := by omega
  have nAB : A ≠ B := by omega
  have nBA : B ≠ A := by omega
  have lF : w.heap.size ≤ F := by omega
  have nAF : A ≠ F := by omega
  have nFA : F ≠ A := by omega
  have nBF : B ≠ F := by omega
  have nFB : F ≠ B := by omega
  have rA4 : Row v3 A 54 (kcs a) := ((hv1.old nv2.below).old nv3.below)
  have rB4 : Row v3 B 54 (kcs b) := (hv2.old nv3.below)
  have rF4 : Row v3 F 56 (fns) := hv3
  have bel4 : BelD w.heap.size w v3 := (beld_step (beld_step (beld_step (BelD.refl _ _) (by omega) nv1.beld) (by omega) nv2.beld) (by omega) nv3.beld)
  clear q0 q1 q2 q3 q4 q5 Ae hv1 nv1 Be hv2 nv2 Fe hv3 nv3
  refine (CT.out F _ rF4).mono ?_
  rintro e y5 ⟨rfl, hB⟩
  have rA5 : Row y5 A 54 (kcs a) := rA4.old hB.below
  have rB5 : Row y5 B 54 (kcs b) := rB4.old hB.below
  have rF5 : Row y5 F 56 (fns) := rF4.old hB.below
  have bel5 : BelD w.heap.size w y5 := beld_step bel4 bel4.size hB
  clear hB rA4 rB4 rF4 bel4
  go_wp2_with fail
  go_ret
  exact ⟨rfl, bel5⟩
end Go.Proofs.YtnjmocobncncdaaDoor.Od
