/-
  The contracts of the document's Near, Densities, Wins and Fold of layer 13. Over this seat's translation.
-/
import Derived.Test.YtffpifljeeikfaaGreatDoorChoLeaf
import Derived.Test.YtffpifljeeikfaaGreatDoorWinAll
import Derived.Test.YtffpifljeeikfaaGreatDoorOrdAll
namespace Go.Proofs.YtffpifljeeikfaaGreatDoor.Cz
open Go.ChangeShapes Go.WideShapes Go.ChangeAt Go.RowKit Go.Proofs.YtffpifljeeikfaaGreatDoor.Mem Go.Proofs.YtffpifljeeikfaaGreatDoor.Bt Go.Proofs.YtffpifljeeikfaaGreatDoor.Sa Go.Proofs.YtffpifljeeikfaaGreatDoor.Sl
open Go.Proofs.YtffpifljeeikfaaGreatDoor.Od (Ky kcs kcmp kval keyN keyN_ok cmpN_neg cmpN_pos sz_key sz_rkey)
open Go.Proofs.YtffpifljeeikfaaGreatDoor.Lk (kS fS kR fR)
open Go.Proofs.YtffpifljeeikfaaGreatDoor.Wn (wcs WRt)
open Go.Proofs.YtffpifljeeikfaaGreatDoor.Ep (H32 zh zh_ok num32 Has h_len one_app one_num szH zH fitH allH)
open Go.Proofs.YtffpifljeeikfaaGreatDoor.Sha (ks)
set_option linter.unusedVariables false
set_option linter.unusedSimpArgs false

set_option maxHeartbeats 4000000 in
set_option maxRecDepth 100000 in
theorem rnear_any (a b : Sta) (w : World) (ka : a.Ok) (kb : b.Ok) :
    Calls Tryz.prog 12 #[.agg (scs a).toArray, .agg (scs b).toArray] w fun e w' => e = .returned (.bool (decide (nearP a b))) ∧ Below w.heap.size w w' := by
  have KA := Lib.hid ka; have KB := Lib.hid kb
  have EA := Lib.hid (fun w0 => Slot.repoch_nat a.slot w0 ka.slot)
  have EB := Lib.hid (fun w0 => Slot.repoch_nat b.slot w0 kb.slot)
  have LA := Lib.hid (fun w0 => Slot.rlocking_nat a.slot w0 ka.slot)
  have LB := Lib.hid (fun w0 => Slot.rlocking_nat b.slot w0 kb.slot)
  have BA := Lib.hid ka.slot; have BB := Lib.hid kb.slot
  obtain ⟨v, hv⟩ : ∃ v, v = decide (nearP a b) := ⟨_, rfl⟩
  rw [← hv]
  have HV := Lib.hid hv
  obtain ⟨m, hm⟩ : ∃ m, m = a.slot / 24 := ⟨_, rfl⟩
  obtain ⟨n, hn⟩ : ∃ n, n = b.slot / 24 := ⟨_, rfl⟩
  rw [← hm] at EA
  rw [← hn] at EB
  have HM := Lib.hid hm; have HN := Lib.hid hn
  clear hv ka kb hm hn
  have hm2 : m < 178956971 := by have := HM.out; have := BA.out; omega
  have hn2 : n < 178956971 := by have := HN.out; have := BB.out; omega
  rcases Nat.lt_trichotomy m n with h | h | h
  · skip
    by_cases h1 : n = m + 1
    · skip
      by_cases hl : a.slot % 24 < 16
      · rw [decide_eq_true hl] at LA
        have HQ : Hid (v = false) := Lib.hid (by rw [HV.out]; exact decide_eq_false (fun g => by have := (((near_at1 (e := a) (y := b) (by have := HM.out; have := HN.out; omega))).1 g).1; omega))
        have q1 : decide ((m : Int) = (n : Int)) = false := decide_eq_false (by omega)
        have q2 : ((m : Int) == (n : Int)) = false := by simp; omega
        have q3 : decide ((m : Int) < (n : Int)) = true := decide_eq_true (by omega)
        have q4 : decide (m < n) = true := decide_eq_true (by omega)
        have q5 : (m == n) = false := by simp; omega
        have p1 : decide ((n : Int) = ((m + 1 : Nat) : Int)) = true := decide_eq_true (by omega)
        clear h h1 hl
        go_enter Tryz.func12, Tryz.ntmps12
        go_wp2_with (first
          | ((with_reducible refine at_slot 2 ?_); (refine arm_box (o := ⟨some 2, _, _, _, _, _⟩) rfl _ _ rfl (scs a) rfl ?_); intro A v1 Ae hv1 nv1)
          | ((with_reducible refine at_slot 3 ?_); (refine arm_box (o := ⟨some 3, _, _, _, _, _⟩) rfl _ _ rfl (scs b) rfl ?_); intro B v2 Be hv2 nv2)
          | ((with_reducible refine at_slot 8 ?_); (refine arm_want (.int .u32 (a.slot : Int)) 8 rfl (by kernel_rfl) (run_op_load1 _ _ rfl (.int .u32) (by kernel_rfl) rfl ⟨A, 96, none⟩ rfl (.int .u32 (a.slot : Int)) ((hv1.old nv2.below).cell (show Has (scs a) 96 [.int .u32 (a.slot : Int)] from s_slot KA.out).get)) ?_)))
        have q0 := Ae.out
        have q1 := nv1.size
        have q2 := Be.out
        have q3 := nv2.size
        have lA : w.heap.size ≤ A := by omega
        have lB : w.heap.size ≤ B := by omega
        have nAB : A ≠ B := by omega
        have nBA : B ≠ A := by omega
        have rA3 : Row v2 A 49 (scs a) := (hv1.old nv2.below)
        have rB3 : Row v2 B 49 (scs b) := hv2
        have bel3 : Below w.heap.size w v2 := (below_step (below_step (Below.refl _ _) (by omega) nv1.below) (by omega) nv2.below)
        clear q0 q1 q2 q3 Ae hv1 nv1 Be hv2 nv2
        refine (EA.out _).mono ?_
        rintro e z1 ⟨rfl, rfl⟩
        go_wp2_with (first
          | ((with_reducible refine at_slot 11 ?_); (refine arm_want (.int .u32 (b.slot : Int)) 11 rfl (by kernel_rfl) (run_op_load1 _ _ rfl (.int .u32) (by kernel_rfl) rfl ⟨B, 96, none⟩ rfl (.int .u32 (b.slot : Int)) (rB3.cell (show Has (scs b) 96 [.int .u32 (b.slot : Int)] from s_slot KB.out).get)) ?_)))
        refine (EB.out _).mono ?_
        rintro e z2 ⟨rfl, rfl⟩
        go_wp2_with (first
          | ((with_reducible refine at_slot 30 ?_); (refine arm_want (.int .u32 ((m + 1 : Nat) : Int)) 30 rfl (by kernel_rfl) (run_op_add32 _ _ _ _ rfl _ _ _ rfl rfl (by rw [IntKind.wrap_u32]; omega) _) ?_))
          | ((with_reducible refine at_slot 31 ?_); (refine arm_want (.bool true) 31 rfl (by kernel_rfl) (cmp_eql _ _ .u32 (by kernel_rfl) _ _ rfl .u32 (n : Int) ((m + 1 : Nat) : Int) rfl rfl true p1 _) ?_))
          | ((with_reducible refine at_slot 34 ?_); (refine arm_want (.int .u32 (a.slot : Int)) 34 rfl (by kernel_rfl) (run_op_load1 _ _ rfl (.int .u32) (by kernel_rfl) rfl ⟨A, 96, none⟩ rfl (.int .u32 (a.slot : Int)) (rA3.cell (show Has (scs a) 96 [.int .u32 (a.slot : Int)] from s_slot KA.out).get)) ?_)))
        refine (LA.out _).mono ?_
        rintro e z3 ⟨rfl, rfl⟩
        go_wp2_with fail
        rw [HQ.out]
        go_ret
        exact ⟨rfl, bel3⟩
      · rw [decide_eq_false hl] at LA
        obtain ⟨bb, hbb⟩ : ∃ bb : Bool, bb = true ↔ b.now.lock = a.next.lock := ⟨decide _, decide_eq_true_iff⟩
        have HB := Lib.hid hbb
        have HQ : Hid (v = bb) := Lib.hid (by rw [HV.out]; exact Bool.eq_iff_iff.2 (decide_eq_true_iff.trans (((near_at1 (e := a) (y := b) (by have := HM.out; have := HN.out; omega))).trans ⟨fun g => hbb.2 g.2, fun g => ⟨by omega, hbb.1 g⟩⟩)))
        clear hbb
        have q1 : decide ((m : Int) = (n : Int)) = false := decide_eq_false (by omega)
        have q2 : ((m : Int) == (n : Int)) = false := by simp; omega
        have q3 : decide ((m : Int) < (n : Int)) = true := decide_eq_true (by omega)
        have q4 : decide (m < n) = true := decide_eq_true (by omega)
        have q5 : (m == n) = false := by simp; omega
        have p1 : decide ((n : Int) = ((m + 1 : Nat) : Int)) = true := decide_eq_true (by omega)
        clear h h1 hl
        go_enter Tryz.func12, Tryz.ntmps12
        go_wp2_with (first
          | ((with_reducible refine at_slot 2 ?_); (refine arm_box (o := ⟨some 2, _, _, _, _, _⟩) rfl _ _ rfl (scs a) rfl ?_); intro A v1 Ae hv1 nv1)
          | ((with_reducible refine at_slot 3 ?_); (refine arm_box (o := ⟨some 3, _, _, _, _, _⟩) rfl _ _ rfl (scs b) rfl ?_); intro B v2 Be hv2 nv2)
          | ((with_reducible refine at_slot 8 ?_); (refine arm_want (.int .u32 (a.slot : Int)) 8 rfl (by kernel_rfl) (run_op_load1 _ _ rfl (.int .u32) (by kernel_rfl) rfl ⟨A, 96, none⟩ rfl (.int .u32 (a.slot : Int)) ((hv1.old nv2.below).cell (show Has (scs a) 96 [.int .u32 (a.slot : Int)] from s_slot KA.out).get)) ?_)))
        have q0 := Ae.out
        have q1 := nv1.size
        have q2 := Be.out
        have q3 := nv2.size
        have lA : w.heap.size ≤ A := by omega
        have lB : w.heap.size ≤ B := by omega
        have nAB : A ≠ B := by omega
        have nBA : B ≠ A := by omega
        have rA3 : Row v2 A 49 (scs a) := (hv1.old nv2.below)
        have rB3 : Row v2 B 49 (scs b) := hv2
        have bel3 : Below w.heap.size w v2 := (below_step (below_step (Below.refl _ _) (by omega) nv1.below) (by omega) nv2.below)
        clear q0 q1 q2 q3 Ae hv1 nv1 Be hv2 nv2
        refine (EA.out _).mono ?_
        rintro e z1 ⟨rfl, rfl⟩
        go_wp2_with (first
          | ((with_reducible refine at_slot 11 ?_); (refine arm_want (.int .u32 (b.slot : Int)) 11 rfl (by kernel_rfl) (run_op_load1 _ _ rfl (.int .u32) (by kernel_rfl) rfl ⟨B, 96, none⟩ rfl (.int .u32 (b.slot : Int)) (rB3.cell (show Has (scs b) 96 [.int .u32 (b.slot : Int)] from s_slot KB.out).get)) ?_)))
        refine (EB.out _).mono ?_
        rintro e z2 ⟨rfl, rfl⟩
        go_wp2_with (first
          | ((with_reducible refine at_slot 30 ?_); (refine arm_want (.int .u32 ((m + 1 : Nat) : Int)) 30 rfl (by kernel_rfl) (run_op_add32 _ _ _ _ rfl _ _ _ rfl rfl (by rw [IntKind.wrap_u32]; omega) _) ?_))
          | ((with_reducible refine at_slot 31 ?_); (refine arm_want (.bool true) 31 rfl (by kernel_rfl) (cmp_eql _ _ .u32 (by kernel_rfl) _ _ rfl .u32 (n : Int) ((m + 1 : Nat) : Int) rfl rfl true p1 _) ?_))
          | ((with_reducible refine at_slot 34 ?_); (refine arm_want (.int .u32 (a.slot : Int)) 34 rfl (by kernel_rfl) (run_op_load1 _ _ rfl (.int .u32) (by kernel_rfl) rfl ⟨A, 96, none⟩ rfl (.int .u32 (a.slot : Int)) (rA3.cell (show Has (scs a) 96 [.int .u32 (a.slot : Int)] from s_slot KA.out).get)) ?_)))
        refine (LA.out _).mono ?_
        rintro e z3 ⟨rfl, rfl⟩
        go_wp2_with (first
          | ((with_reducible refine at_slot 42 ?_); (refine arm_want (.agg (u8s b.now.lock).toArray) 42 rfl (by kernel_rfl) (run_op_load _ _ rfl B 201 rfl (u8s b.now.lock) ((show Has (scs b) 201 (u8s b.now.lock) from s_nlock KB.out).range (rB3)) ((szH KB.out.now.lock))) ?_))
          | ((with_reducible refine at_slot 46 ?_); (refine arm_want (.agg (u8s a.next.lock).toArray) 46 rfl (by kernel_rfl) (run_op_load _ _ rfl A 330 rfl (u8s a.next.lock) ((show Has (scs a) 330 (u8s a.next.lock) from s_xlock KA.out).range (rA3)) ((szH KA.out.next.lock))) ?_))
          | ((with_reducible refine at_slot 47 ?_); (refine arm_want (.bool bb) 47 rfl (by kernel_rfl) (run_op_eqlD KB.out.now.lock KA.out.next.lock _ _ _ rfl rfl rfl bb HB.out _) ?_)))
        rw [HQ.out]
        go_ret
        exact ⟨rfl, bel3⟩
    · skip
      have HQ : Hid (v = false) := Lib.hid (by have := HM.out; have := HN.out; rw [HV.out]; exact decide_eq_false (fun g => near_at2 (by omega) g))
      have q1 : decide ((m : Int) = (n : Int)) = false := decide_eq_false (by omega)
      have q2 : ((m : Int) == (n : Int)) = false := by simp; omega
      have q3 : decide ((m : Int) < (n : Int)) = true := decide_eq_true (by omega)
      have q4 : decide (m < n) = true := decide_eq_true (by omega)
      have q5 : (m == n) = false := by simp; omega
      have p1 : decide ((n : Int) = ((m + 1 : Nat) : Int)) = false := decide_eq_false (by omega)
      clear h h1
      go_enter Tryz.func12, Tryz.ntmps12
      go_wp2_with (first
        | ((with_reducible refine at_slot 2 ?_); (refine arm_box (o := ⟨some 2, _, _, _, _, _⟩) rfl _ _ rfl (scs a) rfl ?_); intro A v1 Ae hv1 nv1)
        | ((with_reducible refine at_slot 3 ?_); (refine arm_box (o := ⟨some 3, _, _, _, _, _⟩) rfl _ _ rfl (scs b) rfl ?_); intro B v2 Be hv2 nv2)
        | ((with_reducible refine at_slot 8 ?_); (refine arm_want (.int .u32 (a.slot : Int)) 8 rfl (by kernel_rfl) (run_op_load1 _ _ rfl (.int .u32) (by kernel_rfl) rfl ⟨A, 96, none⟩ rfl (.int .u32 (a.slot : Int)) ((hv1.old nv2.below).cell (show Has (scs a) 96 [.int .u32 (a.slot : Int)] from s_slot KA.out).get)) ?_)))
      have q0 := Ae.out
      have q1 := nv1.size
      have q2 := Be.out
      have q3 := nv2.size
      have lA : w.heap.size ≤ A := by omega
      have lB : w.heap.size ≤ B := by omega
      have nAB : A ≠ B := by omega
      have nBA : B ≠ A := by omega
      have rA3 : Row v2 A 49 (scs a) := (hv1.old nv2.below)
      have rB3 : Row v2 B 49 (scs b) := hv2
      have bel3 : Below w.heap.size w v2 := (below_step (below_step (Below.refl _ _) (by omega) nv1.below) (by omega) nv2.below)
      clear q0 q1 q2 q3 Ae hv1 nv1 Be hv2 nv2
      refine (EA.out _).mono ?_
      rintro e z1 ⟨rfl, rfl⟩
      go_wp2_with (first
        | ((with_reducible refine at_slot 11 ?_); (refine arm_want (.int .u32 (b.slot : Int)) 11 rfl (by kernel_rfl) (run_op_load1 _ _ rfl (.int .u32) (by kernel_rfl) rfl ⟨B, 96, none⟩ rfl (.int .u32 (b.slot : Int)) (rB3.cell (show Has (scs b) 96 [.int .u32 (b.slot : Int)] from s_slot KB.out).get)) ?_)))
      refine (EB.out _).mono ?_
      rintro e z2 ⟨rfl, rfl⟩
      go_wp2_with (first
        | ((with_reducible refine at_slot 30 ?_); (refine arm_want (.int .u32 ((m + 1 : Nat) : Int)) 30 rfl (by kernel_rfl) (run_op_add32 _ _ _ _ rfl _ _ _ rfl rfl (by rw [IntKind.wrap_u32]; omega) _) ?_))
        | ((with_reducible refine at_slot 31 ?_); (refine arm_want (.bool false) 31 rfl (by kernel_rfl) (cmp_eql _ _ .u32 (by kernel_rfl) _ _ rfl .u32 (n : Int) ((m + 1 : Nat) : Int) rfl rfl false p1 _) ?_)))
      rw [HQ.out]
      go_ret
      exact ⟨rfl, bel3⟩
  · skip
    obtain ⟨bb, hbb⟩ : ∃ bb : Bool, bb = true ↔ a.now.lock = b.now.lock := ⟨decide _, decide_eq_true_iff⟩
    have HB := Lib.hid hbb
    have HQ : Hid (v = bb) := Lib.hid (by rw [HV.out]; exact Bool.eq_iff_iff.2 (decide_eq_true_iff.trans ((near_swap.trans (near_at0 (e := b) (y := a) (by have := HM.out; have := HN.out; omega))).trans hbb.symm)))
    clear hbb
    have q1 : decide ((m : Int) = (n : Int)) = true := decide_eq_true (by omega)
    have q2 : ((m : Int) == (n : Int)) = true := by simp; omega
    have q3 : decide ((m : Int) < (n : Int)) = false := decide_eq_false (by omega)
    have q4 : decide (m < n) = false := decide_eq_false (by omega)
    have q5 : (m == n) = true := by simp; omega
    clear h
    go_enter Tryz.func12, Tryz.ntmps12
    go_wp2_with (first
      | ((with_reducible refine at_slot 2 ?_); (refine arm_box (o := ⟨some 2, _, _, _, _, _⟩) rfl _ _ rfl (scs a) rfl ?_); intro A v1 Ae hv1 nv1)
      | ((with_reducible refine at_slot 3 ?_); (refine arm_box (o := ⟨some 3, _, _, _, _, _⟩) rfl _ _ rfl (scs b) rfl ?_); intro B v2 Be hv2 nv2)
      | ((with_reducible refine at_slot 8 ?_); (refine arm_want (.int .u32 (a.slot : Int)) 8 rfl (by kernel_rfl) (run_op_load1 _ _ rfl (.int .u32) (by kernel_rfl) rfl ⟨A, 96, none⟩ rfl (.int .u32 (a.slot : Int)) ((hv1.old nv2.below).cell (show Has (scs a) 96 [.int .u32 (a.slot : Int)] from s_slot KA.out).get)) ?_)))
    have q0 := Ae.out
    have q1 := nv1.size
    have q2 := Be.out
    have q3 := nv2.size
    have lA : w.heap.size ≤ A := by omega
    have lB : w.heap.size ≤ B := by omega
    have nAB : A ≠ B := by omega
    have nBA : B ≠ A := by omega
    have rA3 : Row v2 A 49 (scs a) := (hv1.old nv2.below)
    have rB3 : Row v2 B 49 (scs b) := hv2
    have bel3 : Below w.heap.size w v2 := (below_step (below_step (Below.refl _ _) (by omega) nv1.below) (by omega) nv2.below)
    clear q0 q1 q2 q3 Ae hv1 nv1 Be hv2 nv2
    refine (EA.out _).mono ?_
    rintro e z1 ⟨rfl, rfl⟩
    go_wp2_with (first
      | ((with_reducible refine at_slot 11 ?_); (refine arm_want (.int .u32 (b.slot : Int)) 11 rfl (by kernel_rfl) (run_op_load1 _ _ rfl (.int .u32) (by kernel_rfl) rfl ⟨B, 96, none⟩ rfl (.int .u32 (b.slot : Int)) (rB3.cell (show Has (scs b) 96 [.int .u32 (b.slot : Int)] from s_slot KB.out).get)) ?_)))
    refine (EB.out _).mono ?_
    rintro e z2 ⟨rfl, rfl⟩
    go_wp2_with (first
      | ((with_reducible refine at_slot 19 ?_); (refine arm_load (o := ⟨some 19, _, _, _, _, _⟩) rfl _ _ rfl A 201 rfl (u8s a.now.lock) ((show Has (scs a) 201 (u8s a.now.lock) from s_nlock KA.out).range (rA3)) (szH KA.out.now.lock) ?_))
      | ((with_reducible refine at_slot 23 ?_); (refine arm_load (o := ⟨some 23, _, _, _, _, _⟩) rfl _ _ rfl B 201 rfl (u8s b.now.lock) ((show Has (scs b) 201 (u8s b.now.lock) from s_nlock KB.out).range (rB3)) (szH KB.out.now.lock) ?_))
      | ((with_reducible refine at_slot 15 ?_); (refine arm_want (.bool true) 15 rfl (by kernel_rfl) (cmp_eql _ _ .u32 (by kernel_rfl) _ _ rfl .u32 (m : Int) (n : Int) rfl rfl true q1 _) ?_))
      | ((with_reducible refine at_slot 24 ?_); (refine arm_want (.bool bb) 24 rfl (by kernel_rfl) (run_op_eqlD KA.out.now.lock KB.out.now.lock _ _ _ rfl rfl rfl bb HB.out _) ?_)))
    rw [HQ.out]
    go_ret
    exact ⟨rfl, bel3⟩
  · skip
    by_cases h1 : m = n + 1
    · skip
      by_cases hl : b.slot % 24 < 16
      · rw [decide_eq_true hl] at LB
        have HQ : Hid (v = false) := Lib.hid (by rw [HV.out]; exact decide_eq_false (fun g => by have := (((near_swap.trans (near_at1 (e := b) (y := a) (by have := HM.out; have := HN.out; omega)))).1 g).1; omega))
        have q1 : decide ((m : Int) = (n : Int)) = false := decide_eq_false (by omega)
        have q2 : ((m : Int) == (n : Int)) = false := by simp; omega
        have q3 : decide ((m : Int) < (n : Int)) = false := decide_eq_false (by omega)
        have q4 : decide (m < n) = false := decide_eq_false (by omega)
        have q5 : (m == n) = false := by simp; omega
        have p1 : decide ((m : Int) = ((n + 1 : Nat) : Int)) = true := decide_eq_true (by omega)
        clear h h1 hl
        go_enter Tryz.func12, Tryz.ntmps12
        go_wp2_with (first
          | ((with_reducible refine at_slot 2 ?_); (refine arm_box (o := ⟨some 2, _, _, _, _, _⟩) rfl _ _ rfl (scs a) rfl ?_); intro A v1 Ae hv1 nv1)
          | ((with_reducible refine at_slot 3 ?_); (refine arm_box (o := ⟨some 3, _, _, _, _, _⟩) rfl _ _ rfl (scs b) rfl ?_); intro B v2 Be hv2 nv2)
          | ((with_reducible refine at_slot 8 ?_); (refine arm_want (.int .u32 (a.slot : Int)) 8 rfl (by kernel_rfl) (run_op_load1 _ _ rfl (.int .u32) (by kernel_rfl) rfl ⟨A, 96, none⟩ rfl (.int .u32 (a.slot : Int)) ((hv1.old nv2.below).cell (show Has (scs a) 96 [.int .u32 (a.slot : Int)] from s_slot KA.out).get)) ?_)))
        have q0 := Ae.out
        have q1 := nv1.size
        have q2 := Be.out
        have q3 := nv2.size
        have lA : w.heap.size ≤ A := by omega
        have lB : w.heap.size ≤ B := by omega
        have nAB : A ≠ B := by omega
        have nBA : B ≠ A := by omega
        have rA3 : Row v2 A 49 (scs a) := (hv1.old nv2.below)
        have rB3 : Row v2 B 49 (scs b) := hv2
        have bel3 : Below w.heap.size w v2 := (below_step (below_step (Below.refl _ _) (by omega) nv1.below) (by omega) nv2.below)
        clear q0 q1 q2 q3 Ae hv1 nv1 Be hv2 nv2
        refine (EA.out _).mono ?_
        rintro e z1 ⟨rfl, rfl⟩
        go_wp2_with (first
          | ((with_reducible refine at_slot 11 ?_); (refine arm_want (.int .u32 (b.slot : Int)) 11 rfl (by kernel_rfl) (run_op_load1 _ _ rfl (.int .u32) (by kernel_rfl) rfl ⟨B, 96, none⟩ rfl (.int .u32 (b.slot : Int)) (rB3.cell (show Has (scs b) 96 [.int .u32 (b.slot : Int)] from s_slot KB.out).get)) ?_)))
        refine (EB.out _).mono ?_
        rintro e z2 ⟨rfl, rfl⟩
        go_wp2_with (first
          | ((with_reducible refine at_slot 51 ?_); (refine arm_want (.int .u32 ((n + 1 : Nat) : Int)) 51 rfl (by kernel_rfl) (run_op_add32 _ _ _ _ rfl _ _ _ rfl rfl (by rw [IntKind.wrap_u32]; omega) _) ?_))
          | ((with_reducible refine at_slot 52 ?_); (refine arm_want (.bool true) 52 rfl (by kernel_rfl) (cmp_eql _ _ .u32 (by kernel_rfl) _ _ rfl .u32 (m : Int) ((n + 1 : Nat) : Int) rfl rfl true p1 _) ?_))
          | ((with_reducible refine at_slot 55 ?_); (refine arm_want (.int .u32 (b.slot : Int)) 55 rfl (by kernel_rfl) (run_op_load1 _ _ rfl (.int .u32) (by kernel_rfl) rfl ⟨B, 96, none⟩ rfl (.int .u32 (b.slot : Int)) (rB3.cell (show Has (scs b) 96 [.int .u32 (b.slot : Int)] from s_slot KB.out).get)) ?_)))
        refine (LB.out _).mono ?_
        rintro e z3 ⟨rfl, rfl⟩
        go_wp2_with fail
        rw [HQ.out]
        go_ret
        exact ⟨rfl, bel3⟩
      · rw [decide_eq_false hl] at LB
        obtain ⟨bb, hbb⟩ : ∃ bb : Bool, bb = true ↔ a.now.lock = b.next.lock := ⟨decide _, decide_eq_true_iff⟩
        have HB := Lib.hid hbb
        have HQ : Hid (v = bb) := Lib.hid (by rw [HV.out]; exact Bool.eq_iff_iff.2 (decide_eq_true_iff.trans ((near_swap.trans (near_at1 (e := b) (y := a) (by have := HM.out; have := HN.out; omega))).trans ⟨fun g => hbb.2 g.2, fun g => ⟨by omega, hbb.1 g⟩⟩)))
        clear hbb
        have q1 : decide ((m : Int) = (n : Int)) = false := decide_eq_false (by omega)
        have q2 : ((m : Int) == (n : Int)) = false := by simp; omega
        have q3 : decide ((m : Int) < (n : Int)) = false := decide_eq_false (by omega)
        have q4 : decide (m < n) = false := decide_eq_false (by omega)
        have q5 : (m == n) = false := by simp; omega
        have p1 : decide ((m : Int) = ((n + 1 : Nat) : Int)) = true := decide_eq_true (by omega)
        clear h h1 hl
        go_enter Tryz.func12, Tryz.ntmps12
        go_wp2_with (first
          | ((with_reducible refine at_slot 2 ?_); (refine arm_box (o := ⟨some 2, _, _, _, _, _⟩) rfl _ _ rfl (scs a) rfl ?_); intro A v1 Ae hv1 nv1)
          | ((with_reducible refine at_slot 3 ?_); (refine arm_box (o := ⟨some 3, _, _, _, _, _⟩) rfl _ _ rfl (scs b) rfl ?_); intro B v2 Be hv2 nv2)
          | ((with_reducible refine at_slot 8 ?_); (refine arm_want (.int .u32 (a.slot : Int)) 8 rfl (by kernel_rfl) (run_op_load1 _ _ rfl (.int .u32) (by kernel_rfl) rfl ⟨A, 96, none⟩ rfl (.int .u32 (a.slot : Int)) ((hv1.old nv2.below).cell (show Has (scs a) 96 [.int .u32 (a.slot : Int)] from s_slot KA.out).get)) ?_)))
        have q0 := Ae.out
        have q1 := nv1.size
        have q2 := Be.out
        have q3 := nv2.size
        have lA : w.heap.size ≤ A := by omega
        have lB : w.heap.size ≤ B := by omega
        have nAB : A ≠ B := by omega
        have nBA : B ≠ A := by omega
        have rA3 : Row v2 A 49 (scs a) := (hv1.old nv2.below)
        have rB3 : Row v2 B 49 (scs b) := hv2
        have bel3 : Below w.heap.size w v2 := (below_step (below_step (Below.refl _ _) (by omega) nv1.below) (by omega) nv2.below)
        clear q0 q1 q2 q3 Ae hv1 nv1 Be hv2 nv2
        refine (EA.out _).mono ?_
        rintro e z1 ⟨rfl, rfl⟩
        go_wp2_with (first
          | ((with_reducible refine at_slot 11 ?_); (refine arm_want (.int .u32 (b.slot : Int)) 11 rfl (by kernel_rfl) (run_op_load1 _ _ rfl (.int .u32) (by kernel_rfl) rfl ⟨B, 96, none⟩ rfl (.int .u32 (b.slot : Int)) (rB3.cell (show Has (scs b) 96 [.int .u32 (b.slot : Int)] from s_slot KB.out).get)) ?_)))
        refine (EB.out _).mono ?_
        rintro e z2 ⟨rfl, rfl⟩
        go_wp2_with (first
          | ((with_reducible refine at_slot 51 ?_); (refine arm_want (.int .u32 ((n + 1 : Nat) : Int)) 51 rfl (by kernel_rfl) (run_op_add32 _ _ _ _ rfl _ _ _ rfl rfl (by rw [IntKind.wrap_u32]; omega) _) ?_))
          | ((with_reducible refine at_slot 52 ?_); (refine arm_want (.bool true) 52 rfl (by kernel_rfl) (cmp_eql _ _ .u32 (by kernel_rfl) _ _ rfl .u32 (m : Int) ((n + 1 : Nat) : Int) rfl rfl true p1 _) ?_))
          | ((with_reducible refine at_slot 55 ?_); (refine arm_want (.int .u32 (b.slot : Int)) 55 rfl (by kernel_rfl) (run_op_load1 _ _ rfl (.int .u32) (by kernel_rfl) rfl ⟨B, 96, none⟩ rfl (.int .u32 (b.slot : Int)) (rB3.cell (show Has (scs b) 96 [.int .u32 (b.slot : Int)] from s_slot KB.out).get)) ?_)))
        refine (LB.out _).mono ?_
        rintro e z3 ⟨rfl, rfl⟩
        go_wp2_with (first
          | ((with_reducible refine at_slot 63 ?_); (refine arm_want (.agg (u8s a.now.lock).toArray) 63 rfl (by kernel_rfl) (run_op_load _ _ rfl A 201 rfl (u8s a.now.lock) ((show Has (scs a) 201 (u8s a.now.lock) from s_nlock KA.out).range (rA3)) ((szH KA.out.now.lock))) ?_))
          | ((with_reducible refine at_slot 67 ?_); (refine arm_want (.agg (u8s b.next.lock).toArray) 67 rfl (by kernel_rfl) (run_op_load _ _ rfl B 330 rfl (u8s b.next.lock) ((show Has (scs b) 330 (u8s b.next.lock) from s_xlock KB.out).range (rB3)) ((szH KB.out.next.lock))) ?_))
          | ((with_reducible refine at_slot 68 ?_); (refine arm_want (.bool bb) 68 rfl (by kernel_rfl) (run_op_eqlD KA.out.now.lock KB.out.next.lock _ _ _ rfl rfl rfl bb HB.out _) ?_)))
        rw [HQ.out]
        go_ret
        exact ⟨rfl, bel3⟩
    · skip
      have HQ : Hid (v = false) := Lib.hid (by have := HM.out; have := HN.out; rw [HV.out]; exact decide_eq_false (fun g => near_at2 (e := b) (y := a) (by omega) (near_swap.1 g)))
      have q1 : decide ((m : Int) = (n : Int)) = false := decide_eq_false (by omega)
      have q2 : ((m : Int) == (n : Int)) = false := by simp; omega
      have q3 : decide ((m : Int) < (n : Int)) = false := decide_eq_false (by omega)
      have q4 : decide (m < n) = false := decide_eq_false (by omega)
      have q5 : (m == n) = false := by simp; omega
      have p1 : decide ((m : Int) = ((n + 1 : Nat) : Int)) = false := decide_eq_false (by omega)
      clear h h1
      go_enter Tryz.func12, Tryz.ntmps12
      go_wp2_with (first
        | ((with_reducible refine at_slot 2 ?_); (refine arm_box (o := ⟨some 2, _, _, _, _, _⟩) rfl _ _ rfl (scs a) rfl ?_); intro A v1 Ae hv1 nv1)
        | ((with_reducible refine at_slot 3 ?_); (refine arm_box (o := ⟨some 3, _, _, _, _, _⟩) rfl _ _ rfl (scs b) rfl ?_); intro B v2 Be hv2 nv2)
        | ((with_reducible refine at_slot 8 ?_); (refine arm_want (.int .u32 (a.slot : Int)) 8 rfl (by kernel_rfl) (run_op_load1 _ _ rfl (.int .u32) (by kernel_rfl) rfl ⟨A, 96, none⟩ rfl (.int .u32 (a.slot : Int)) ((hv1.old nv2.below).cell (show Has (scs a) 96 [.int .u32 (a.slot : Int)] from s_slot KA.out).get)) ?_)))
      have q0 := Ae.out
      have q1 := nv1.size
      have q2 := Be.out
      have q3 := nv2.size
      have lA : w.heap.size ≤ A := by omega
      have lB : w.heap.size ≤ B := by omega
      have nAB : A ≠ B := by omega
      have nBA : B ≠ A := by omega
      have rA3 : Row v2 A 49 (scs a) := (hv1.old nv2.below)
      have rB3 : Row v2 B 49 (scs b) := hv2
      have bel3 : Below w.heap.size w v2 := (below_step (below_step (Below.refl _ _) (by omega) nv1.below) (by omega) nv2.below)
      clear q0 q1 q2 q3 Ae hv1 nv1 Be hv2 nv2
      refine (EA.out _).mono ?_
      rintro e z1 ⟨rfl, rfl⟩
      go_wp2_with (first
        | ((with_reducible refine at_slot 11 ?_); (refine arm_want (.int .u32 (b.slot : Int)) 11 rfl (by kernel_rfl) (run_op_load1 _ _ rfl (.int .u32) (by kernel_rfl) rfl ⟨B, 96, none⟩ rfl (.int .u32 (b.slot : Int)) (rB3.cell (show Has (scs b) 96 [.int .u32 (b.slot : Int)] from s_slot KB.out).get)) ?_)))
      refine (EB.out _).mono ?_
      rintro e z2 ⟨rfl, rfl⟩
      go_wp2_with (first
        | ((with_reducible refine at_slot 51 ?_); (refine arm_want (.int .u32 ((n + 1 : Nat) : Int)) 51 rfl (by kernel_rfl) (run_op_add32 _ _ _ _ rfl _ _ _ rfl rfl (by rw [IntKind.wrap_u32]; omega) _) ?_))
        | ((with_reducible refine at_slot 52 ?_); (refine arm_want (.bool false) 52 rfl (by kernel_rfl) (cmp_eql _ _ .u32 (by kernel_rfl) _ _ rfl .u32 (m : Int) ((n + 1 : Nat) : Int) rfl rfl false p1 _) ?_)))
      rw [HQ.out]
      go_ret
      exact ⟨rfl, bel3⟩
theorem rrel_sta (s : Sta) (t : Nat) (w : World) (k : s.Ok) (r : SRt s) (ht : t < 4294967296) :
    Calls Tryz.prog 19 #[.agg (wcs s.min s.last s.counts).toArray, .int .u32 (t : Int)] w fun e w' => e = .returned (.int .u32 ((denN s t : Nat) : Int)) ∧ Below w.heap.size w w' :=
  Wn.rwrel_any s.min s.last t s.counts w k.min k.last ht r.1.2 k.counts
set_option maxHeartbeats 4000000 in
set_option maxRecDepth 100000 in
theorem rdens_any (a b : Sta) (w : World) (ka : a.Ok) (kb : b.Ok) (ra : SRt a) (rb : SRt b) :
    Calls Tryz.prog 7 #[.agg (scs a).toArray, .agg (scs b).toArray] w fun e w' => e = .returned (.tuple #[.int .u32 ((denN a (asN a b) : Nat) : Int), .int .u32 ((denN b (asN a b) : Nat) : Int)]) ∧ Below w.heap.size w w' := by
  have KA := Lib.hid ka; have KB := Lib.hid kb
  have CA := Lib.hid (fun w0 => rrel_sta a (asN a b) w0 ka ra (asN_lt ka.slot kb.slot))
  have CB := Lib.hid (fun w0 => rrel_sta b (asN a b) w0 kb rb (asN_lt ka.slot kb.slot))
  generalize denN a (asN a b) = x at CA ⊢
  generalize denN b (asN a b) = y at CB ⊢
  by_cases h : a.slot < b.slot
  · rw [show asN a b = b.slot from if_pos h] at CA CB
    have d1 : decide ((b.slot : Int) > (a.slot : Int)) = true := decide_eq_true (by omega)
    have d2 : decide ((a.slot : Int) < (b.slot : Int)) = true := decide_eq_true (by omega)
    have d3 : decide (a.slot < b.slot) = true := decide_eq_true (by omega)
    clear h ka kb ra rb
    go_enter Tryz.func7, Tryz.ntmps7
    go_wp2_with (first
      | ((with_reducible refine at_slot 2 ?_); (refine arm_box (o := ⟨some 2, _, _, _, _, _⟩) rfl _ _ rfl (scs a) rfl ?_); intro A v1 Ae hv1 nv1)
      | ((with_reducible refine at_slot 3 ?_); (refine arm_box (o := ⟨some 3, _, _, _, _, _⟩) rfl _ _ rfl (scs b) rfl ?_); intro B v2 Be hv2 nv2)
      | ((with_reducible refine at_slot 8 ?_); (refine arm_want (.int .u32 (a.slot : Int)) 8 rfl (by kernel_rfl) (run_op_load1 _ _ rfl (.int .u32) (by kernel_rfl) rfl ⟨A, 96, none⟩ rfl (.int .u32 (a.slot : Int)) ((hv1.old nv2.below).cell (show Has (scs a) 96 [.int .u32 (a.slot : Int)] from s_slot KA.out).get)) ?_))
      | ((with_reducible refine at_slot 10 ?_); (refine arm_want (.int .u32 (b.slot : Int)) 10 rfl (by kernel_rfl) (run_op_load1 _ _ rfl (.int .u32) (by kernel_rfl) rfl ⟨B, 96, none⟩ rfl (.int .u32 (b.slot : Int)) (hv2.cell (show Has (scs b) 96 [.int .u32 (b.slot : Int)] from s_slot KB.out).get)) ?_))
      | ((with_reducible refine at_slot 12 ?_); (refine arm_want (.bool true) 12 rfl (by kernel_rfl) (cmp_gtr _ _ _ _ rfl .u32 (b.slot : Int) (a.slot : Int) rfl rfl true d2 _) ?_))
      | ((with_reducible refine at_slot 14 ?_); (refine arm_want (.int .u32 (b.slot : Int)) 14 rfl (by kernel_rfl) (run_op_load1 _ _ rfl (.int .u32) (by kernel_rfl) rfl ⟨B, 96, none⟩ rfl (.int .u32 (b.slot : Int)) (hv2.cell (show Has (scs b) 96 [.int .u32 (b.slot : Int)] from s_slot KB.out).get)) ?_)))
    have q0 := Ae.out
    have q1 := nv1.size
    have q2 := Be.out
    have q3 := nv2.size
    have lA : w.heap.size ≤ A := by omega
    have lB : w.heap.size ≤ B := by omega
    have nAB : A ≠ B := by omega
    have nBA : B ≠ A := by omega
    have rA3 : Row v2 A 49 (scs a) := (hv1.old nv2.below)
    have rB3 : Row v2 B 49 (scs b) := hv2
    have bel3 : Below w.heap.size w v2 := (below_step (below_step (Below.refl _ _) (by omega) nv1.below) (by omega) nv2.below)
    clear q0 q1 q2 q3 Ae hv1 nv1 Be hv2 nv2
    refine wp_region_quiet (C := fun w' => Below v2.heap.size v2 w') (by kernel_rfl) (by kernel_rfl) ((Below.refl _ _).drew) ?_
    rw [List.toList_toArray]
    refine q_value 15 rfl (.pointer (some ⟨A, 99, none⟩)) (by kernel_rfl) (fun w' _ => by kernel_rfl) ?_
    simp only [Act.put, List.setIfInBounds_toArray, List.set_cons_zero, List.set_cons_succ]
    refine q_value 16 rfl (.agg (wcs a.min a.last a.counts).toArray) (by kernel_rfl) (fun w' hC => run_op_load _ _ rfl A 99 rfl (wcs a.min a.last a.counts) ((s_win KA.out).range (rA3.old hC)) (Wn.sz_rwin KA.out.counts)) ?_
    simp only [Act.put, List.setIfInBounds_toArray, List.set_cons_zero, List.set_cons_succ]
    refine q_value 17 rfl (.int .u32 (b.slot : Int)) (by kernel_rfl) (fun w' _ => by kernel_rfl) ?_
    simp only [Act.put, List.setIfInBounds_toArray, List.set_cons_zero, List.set_cons_succ]
    refine q_call 18 rfl (.int .u32 (x : Int)) 19 #[.agg (wcs a.min a.last a.counts).toArray, .int .u32 (b.slot : Int)] (by kernel_rfl) (fun w' _ => run_op_call _ _ _ rfl _ (by simp only [List.map_toArray, List.map_cons, List.map_nil]; rfl) Tryz.func19 (by kernel_rfl) (by kernel_rfl) w') (fun w' hC => (CA.out w').mono fun e w'' h => ⟨h.1, below_step hC hC.size h.2⟩) ?_
    simp only [Act.put, List.setIfInBounds_toArray, List.set_cons_zero, List.set_cons_succ]
    refine q_value 19 rfl (.pointer (some ⟨B, 99, none⟩)) (by kernel_rfl) (fun w' _ => by kernel_rfl) ?_
    simp only [Act.put, List.setIfInBounds_toArray, List.set_cons_zero, List.set_cons_succ]
    refine q_value 20 rfl (.agg (wcs b.min b.last b.counts).toArray) (by kernel_rfl) (fun w' hC => run_op_load _ _ rfl B 99 rfl (wcs b.min b.last b.counts) ((s_win KB.out).range (rB3.old hC)) (Wn.sz_rwin KB.out.counts)) ?_
    simp only [Act.put, List.setIfInBounds_toArray, List.set_cons_zero, List.set_cons_succ]
    refine q_value 21 rfl (.int .u32 (b.slot : Int)) (by kernel_rfl) (fun w' _ => by kernel_rfl) ?_
    simp only [Act.put, List.setIfInBounds_toArray, List.set_cons_zero, List.set_cons_succ]
    refine q_call 22 rfl (.int .u32 (y : Int)) 19 #[.agg (wcs b.min b.last b.counts).toArray, .int .u32 (b.slot : Int)] (by kernel_rfl) (fun w' _ => run_op_call _ _ _ rfl _ (by simp only [List.map_toArray, List.map_cons, List.map_nil]; rfl) Tryz.func19 (by kernel_rfl) (by kernel_rfl) w') (fun w' hC => (CB.out w').mono fun e w'' h => ⟨h.1, below_step hC hC.size h.2⟩) ?_
    simp only [Act.put, List.setIfInBounds_toArray, List.set_cons_zero, List.set_cons_succ]
    refine q_value 4 rfl (.int .u32 (x : Int)) (by kernel_rfl) (fun w' _ => by kernel_rfl) ?_
    simp only [Act.put, List.setIfInBounds_toArray, List.set_cons_zero, List.set_cons_succ]
    refine q_value 5 rfl (.int .u32 (y : Int)) (by kernel_rfl) (fun w' _ => by kernel_rfl) ?_
    simp only [Act.put, List.setIfInBounds_toArray, List.set_cons_zero, List.set_cons_succ]
    refine wpQuiet_nil ?_
    intro w2 hC
    go_wp2_with fail
    go_ret2
    exact ⟨rfl, below_step bel3 bel3.size hC⟩
  · rw [show asN a b = a.slot from if_neg h] at CA CB
    have d1 : decide ((b.slot : Int) > (a.slot : Int)) = false := decide_eq_false (by omega)
    have d2 : decide ((a.slot : Int) < (b.slot : Int)) = false := decide_eq_false (by omega)
    have d3 : decide (a.slot < b.slot) = false := decide_eq_false (by omega)
    clear h ka kb ra rb
    go_enter Tryz.func7, Tryz.ntmps7
    go_wp2_with (first
      | ((with_reducible refine at_slot 2 ?_); (refine arm_box (o := ⟨some 2, _, _, _, _, _⟩) rfl _ _ rfl (scs a) rfl ?_); intro A v1 Ae hv1 nv1)
      | ((with_reducible refine at_slot 3 ?_); (refine arm_box (o := ⟨some 3, _, _, _, _, _⟩) rfl _ _ rfl (scs b) rfl ?_); intro B v2 Be hv2 nv2)
      | ((with_reducible refine at_slot 8 ?_); (refine arm_want (.int .u32 (a.slot : Int)) 8 rfl (by kernel_rfl) (run_op_load1 _ _ rfl (.int .u32) (by kernel_rfl) rfl ⟨A, 96, none⟩ rfl (.int .u32 (a.slot : Int)) ((hv1.old nv2.below).cell (show Has (scs a) 96 [.int .u32 (a.slot : Int)] from s_slot KA.out).get)) ?_))
      | ((with_reducible refine at_slot 10 ?_); (refine arm_want (.int .u32 (b.slot : Int)) 10 rfl (by kernel_rfl) (run_op_load1 _ _ rfl (.int .u32) (by kernel_rfl) rfl ⟨B, 96, none⟩ rfl (.int .u32 (b.slot : Int)) (hv2.cell (show Has (scs b) 96 [.int .u32 (b.slot : Int)] from s_slot KB.out).get)) ?_))
      | ((with_reducible refine at_slot 12 ?_); (refine arm_want (.bool false) 12 rfl (by kernel_rfl) (cmp_gtr _ _ _ _ rfl .u32 (b.slot : Int) (a.slot : Int) rfl rfl false d2 _) ?_)))
    have q0 := Ae.out
    have q1 := nv1.size
    have q2 := Be.out
    have q3 := nv2.size
    have lA : w.heap.size ≤ A := by omega
    have lB : w.heap.size ≤ B := by omega
    have nAB : A ≠ B := by omega
    have nBA : B ≠ A := by omega
    have rA3 : Row v2 A 49 (scs a) := (hv1.old nv2.below)
    have rB3 : Row v2 B 49 (scs b) := hv2
    have bel3 : Below w.heap.size w v2 := (below_step (below_step (Below.refl _ _) (by omega) nv1.below) (by omega) nv2.below)
    clear q0 q1 q2 q3 Ae hv1 nv1 Be hv2 nv2
    refine wp_region_quiet (C := fun w' => Below v2.heap.size v2 w') (by kernel_rfl) (by kernel_rfl) ((Below.refl _ _).drew) ?_
    rw [List.toList_toArray]
    refine q_value 15 rfl (.pointer (some ⟨A, 99, none⟩)) (by kernel_rfl) (fun w' _ => by kernel_rfl) ?_
    simp only [Act.put, List.setIfInBounds_toArray, List.set_cons_zero, List.set_cons_succ]
    refine q_value 16 rfl (.agg (wcs a.min a.last a.counts).toArray) (by kernel_rfl) (fun w' hC => run_op_load _ _ rfl A 99 rfl (wcs a.min a.last a.counts) ((s_win KA.out).range (rA3.old hC)) (Wn.sz_rwin KA.out.counts)) ?_
    simp only [Act.put, List.setIfInBounds_toArray, List.set_cons_zero, List.set_cons_succ]
    refine q_value 17 rfl (.int .u32 (a.slot : Int)) (by kernel_rfl) (fun w' _ => by kernel_rfl) ?_
    simp only [Act.put, List.setIfInBounds_toArray, List.set_cons_zero, List.set_cons_succ]
    refine q_call 18 rfl (.int .u32 (x : Int)) 19 #[.agg (wcs a.min a.last a.counts).toArray, .int .u32 (a.slot : Int)] (by kernel_rfl) (fun w' _ => run_op_call _ _ _ rfl _ (by simp only [List.map_toArray, List.map_cons, List.map_nil]; rfl) Tryz.func19 (by kernel_rfl) (by kernel_rfl) w') (fun w' hC => (CA.out w').mono fun e w'' h => ⟨h.1, below_step hC hC.size h.2⟩) ?_
    simp only [Act.put, List.setIfInBounds_toArray, List.set_cons_zero, List.set_cons_succ]
    refine q_value 19 rfl (.pointer (some ⟨B, 99, none⟩)) (by kernel_rfl) (fun w' _ => by kernel_rfl) ?_
    simp only [Act.put, List.setIfInBounds_toArray, List.set_cons_zero, List.set_cons_succ]
    refine q_value 20 rfl (.agg (wcs b.min b.last b.counts).toArray) (by kernel_rfl) (fun w' hC => run_op_load _ _ rfl B 99 rfl (wcs b.min b.last b.counts) ((s_win KB.out).range (rB3.old hC)) (Wn.sz_rwin KB.out.counts)) ?_
    simp only [Act.put, List.setIfInBounds_toArray, List.set_cons_zero, List.set_cons_succ]
    refine q_value 21 rfl (.int .u32 (a.slot : Int)) (by kernel_rfl) (fun w' _ => by kernel_rfl) ?_
    simp only [Act.put, List.setIfInBounds_toArray, List.set_cons_zero, List.set_cons_succ]
    refine q_call 22 rfl (.int .u32 (y : Int)) 19 #[.agg (wcs b.min b.last b.counts).toArray, .int .u32 (a.slot : Int)] (by kernel_rfl) (fun w' _ => run_op_call _ _ _ rfl _ (by simp only [List.map_toArray, List.map_cons, List.map_nil]; rfl) Tryz.func19 (by kernel_rfl) (by kernel_rfl) w') (fun w' hC => (CB.out w').mono fun e w'' h => ⟨h.1, below_step hC hC.size h.2⟩) ?_
    simp only [Act.put, List.setIfInBounds_toArray, List.set_cons_zero, List.set_cons_succ]
    refine q_value 4 rfl (.int .u32 (x : Int)) (by kernel_rfl) (fun w' _ => by kernel_rfl) ?_
    simp only [Act.put, List.setIfInBounds_toArray, List.set_cons_zero, List.set_cons_succ]
    refine q_value 5 rfl (.int .u32 (y : Int)) (by kernel_rfl) (fun w' _ => by kernel_rfl) ?_
    simp only [Act.put, List.setIfInBounds_toArray, List.set_cons_zero, List.set_cons_succ]
    refine wpQuiet_nil ?_
    intro w2 hC
    go_wp2_with fail
    go_ret2
    exact ⟨rfl, below_step bel3 bel3.size hC⟩
set_option maxHeartbeats 4000000 in
set_option maxRecDepth 100000 in
theorem rwins_any (a b : Sta) (w : World) (ka : a.Ok) (kb : b.Ok) (ra : SRt a) (rb : SRt b) (hk : w.rangeAt 1 0 (u32s ks)) :
    Calls Tryz.prog 14 #[.agg (scs a).toArray, .agg (scs b).toArray] w fun e w' => e = .returned (.bool (decide (winP a b))) ∧ Below w.heap.size w w' := by
  have hk1 : 1 < w.heap.size := range_lt hk (by simp [u32s, ks])
  have HKW : Hid (∀ w', Below w.heap.size w w' → w'.rangeAt 1 0 (u32s ks)) := Lib.hid fun w' hb => range_block hk (hb.block _ hk1)
  have KA := Lib.hid ka; have KB := Lib.hid kb
  have CN := Lib.hid (fun w0 => rnear_any a b w0 ka kb)
  have CD := Lib.hid (fun w0 => rdens_any a b w0 ka kb ra rb)
  have WN := Lib.hid (@win_near a b); have WF := Lib.hid (@win_far a b)
  have CA := Lib.hid (fun w0 h => Od.rof_any a w0 ka h)
  have CB := Lib.hid (fun w0 h => Od.rof_any b w0 kb h)
  have CC := Lib.hid (fun w0 => Od.rcompare_any (keyN b) (keyN a) w0 (keyN_ok kb) (keyN_ok ka))
  have HZ : Hid (decide (0 < kcmp (keyN b) (keyN a)) = decide (kn a < kn b)) := Lib.hid (decide_eq_decide.2 cmpN_pos)
  generalize kcmp (keyN b) (keyN a) = z at HZ CC
  generalize keyN a = xa at CA CC
  generalize keyN b = xb at CB CC
  obtain ⟨v, hv⟩ : ∃ v, v = decide (winP a b) := ⟨_, rfl⟩
  rw [← hv]
  have HV := Lib.hid hv
  obtain ⟨u, hu⟩ : ∃ u, u = decide (kn a < kn b) := ⟨_, rfl⟩
  rw [← hu] at HZ
  have HU := Lib.hid hu
  clear hv hu ka kb ra rb hk hk1
  by_cases hn : nearP a b
  · rw [decide_eq_true hn] at CN
    have HQ : Hid (v = u) := Lib.hid (by rw [HV.out, HU.out]; exact decide_eq_decide.2 (WN.out hn))
    clear hn HV HU WN WF CD
    go_enter Tryz.func14, Tryz.ntmps14
    go_wp2_with (first
      | ((with_reducible refine at_slot 2 ?_); (refine arm_box (o := ⟨some 2, _, _, _, _, _⟩) rfl _ _ rfl (scs a) rfl ?_); intro A v1 Ae hv1 nv1)
      | ((with_reducible refine at_slot 3 ?_); (refine arm_box (o := ⟨some 3, _, _, _, _, _⟩) rfl _ _ rfl (scs b) rfl ?_); intro B v2 Be hv2 nv2))
    have q0 := Ae.out
    have q1 := nv1.size
    have q2 := Be.out
    have q3 := nv2.size
    have lA : w.heap.size ≤ A := by omega
    have lB : w.heap.size ≤ B := by omega
    have nAB : A ≠ B := by omega
    have nBA : B ≠ A := by omega
    have rA3 : Row v2 A 49 (scs a) := (hv1.old nv2.below)
    have rB3 : Row v2 B 49 (scs b) := hv2
    have bel3 : Below w.heap.size w v2 := (below_step (below_step (Below.refl _ _) (by omega) nv1.below) (by omega) nv2.below)
    clear q0 q1 q2 q3 Ae hv1 nv1 Be hv2 nv2
    refine wp_region_quiet (C := fun w' => Below v2.heap.size v2 w') (by kernel_rfl) (by kernel_rfl) ((Below.refl _ _).drew) ?_
    rw [List.toList_toArray]
    refine q_value 8 rfl (.agg (scs b).toArray) (by kernel_rfl) (fun w' hC => run_op_load _ _ rfl B 0 rfl (scs b) ((Has.refl _).range (rB3.old hC)) (sz_rsta KB.out)) ?_
    simp only [Act.put, List.setIfInBounds_toArray, List.set_cons_zero, List.set_cons_succ]
    refine q_call 9 rfl (.agg (kcs xb).toArray) 26 #[.agg (scs b).toArray] (by kernel_rfl) (fun w' _ => run_op_call _ _ _ rfl _ (by simp only [List.map_toArray, List.map_cons, List.map_nil]; rfl) Tryz.func26 (by kernel_rfl) (by kernel_rfl) w') (fun w' hC => (CB.out w' (HKW.out _ (below_step bel3 bel3.size hC))).mono fun e w'' h => ⟨h.1, below_step hC hC.size h.2⟩) ?_
    simp only [Act.put, List.setIfInBounds_toArray, List.set_cons_zero, List.set_cons_succ]
    refine q_value 10 rfl (.agg (scs a).toArray) (by kernel_rfl) (fun w' hC => run_op_load _ _ rfl A 0 rfl (scs a) ((Has.refl _).range (rA3.old hC)) (sz_rsta KA.out)) ?_
    simp only [Act.put, List.setIfInBounds_toArray, List.set_cons_zero, List.set_cons_succ]
    refine q_call 11 rfl (.agg (kcs xa).toArray) 26 #[.agg (scs a).toArray] (by kernel_rfl) (fun w' _ => run_op_call _ _ _ rfl _ (by simp only [List.map_toArray, List.map_cons, List.map_nil]; rfl) Tryz.func26 (by kernel_rfl) (by kernel_rfl) w') (fun w' hC => (CA.out w' (HKW.out _ (below_step bel3 bel3.size hC))).mono fun e w'' h => ⟨h.1, below_step hC hC.size h.2⟩) ?_
    simp only [Act.put, List.setIfInBounds_toArray, List.set_cons_zero, List.set_cons_succ]
    refine q_call 12 rfl (.int .i64 z) 25 #[.agg (kcs xb).toArray, .agg (kcs xa).toArray] (by kernel_rfl) (fun w' _ => run_op_call _ _ _ rfl _ (by simp only [List.map_toArray, List.map_cons, List.map_nil]; rfl) Tryz.func25 (by kernel_rfl) (by kernel_rfl) w') (fun w' hC => (CC.out w').mono fun e w'' h => ⟨h.1, below_step hC hC.size h.2⟩) ?_
    simp only [Act.put, List.setIfInBounds_toArray, List.set_cons_zero, List.set_cons_succ]
    refine q_value 13 rfl (.bool u) (by kernel_rfl) (fun w' _ => cmp_gtr _ _ _ _ rfl .i64 z 0 rfl rfl u HZ.out w') ?_
    simp only [Act.put, List.setIfInBounds_toArray, List.set_cons_zero, List.set_cons_succ]
    refine q_value 5 rfl (.bool u) (by kernel_rfl) (fun w' _ => by kernel_rfl) ?_
    simp only [Act.put, List.setIfInBounds_toArray, List.set_cons_zero, List.set_cons_succ]
    refine wpQuiet_nil ?_
    intro w2 hC
    have xA := rA3.old hC; have xB := rB3.old hC; have bel9 := below_step bel3 bel3.size hC
    clear rA3 rB3 bel3 hC CA CB CC HZ
    go_wp2_with (first
      | ((with_reducible refine at_slot 14 ?_); (refine arm_load (o := ⟨some 14, _, _, _, _, _⟩) rfl _ _ rfl A 0 rfl (scs a) ((show Has (scs a) 0 (scs a) from Has.refl _).range (xA)) (sz_rsta KA.out) ?_))
      | ((with_reducible refine at_slot 15 ?_); (refine arm_load (o := ⟨some 15, _, _, _, _, _⟩) rfl _ _ rfl B 0 rfl (scs b) ((show Has (scs b) 0 (scs b) from Has.refl _).range (xB)) (sz_rsta KB.out) ?_)))
    refine (CN.out _).mono ?_
    rintro e y4 ⟨rfl, hB⟩
    have rA4 : Row y4 A 49 (scs a) := xA.old hB
    have rB4 : Row y4 B 49 (scs b) := xB.old hB
    have bel4 : Below w.heap.size w y4 := below_step bel9 bel9.size hB
    clear hB xA xB bel9
    go_wp2_with fail
    rw [HQ.out]
    go_ret
    exact ⟨rfl, bel4⟩
  · rw [decide_eq_false hn] at CN
    have WW := Lib.hid (WF.out hn)
    clear hn WN WF
    generalize denN a (asN a b) = x at CD WW
    generalize denN b (asN a b) = y at CD WW
    rcases Nat.lt_trichotomy x y with h | h | h
    · skip
      have HQ : Hid (v = true) := Lib.hid (by rw [HV.out]; exact decide_eq_true (WW.out.2 (.inl h)))
      have d1 : decide ((y : Int) > (x : Int)) = true := decide_eq_true (by omega)
      have d2 : decide ((x : Int) < (y : Int)) = true := decide_eq_true (by omega)
      have d3 : decide ((y : Int) = (x : Int)) = false := decide_eq_false (by omega)
      clear h WW HV HU
      go_enter Tryz.func14, Tryz.ntmps14
      go_wp2_with (first
        | ((with_reducible refine at_slot 2 ?_); (refine arm_box (o := ⟨some 2, _, _, _, _, _⟩) rfl _ _ rfl (scs a) rfl ?_); intro A v1 Ae hv1 nv1)
        | ((with_reducible refine at_slot 3 ?_); (refine arm_box (o := ⟨some 3, _, _, _, _, _⟩) rfl _ _ rfl (scs b) rfl ?_); intro B v2 Be hv2 nv2))
      have q0 := Ae.out
      have q1 := nv1.size
      have q2 := Be.out
      have q3 := nv2.size
      have lA : w.heap.size ≤ A := by omega
      have lB : w.heap.size ≤ B := by omega
      have nAB : A ≠ B := by omega
      have nBA : B ≠ A := by omega
      have rA3 : Row v2 A 49 (scs a) := (hv1.old nv2.below)
      have rB3 : Row v2 B 49 (scs b) := hv2
      have bel3 : Below w.heap.size w v2 := (below_step (below_step (Below.refl _ _) (by omega) nv1.below) (by omega) nv2.below)
      clear q0 q1 q2 q3 Ae hv1 nv1 Be hv2 nv2
      refine wp_region_quiet (C := fun w' => Below v2.heap.size v2 w') (by kernel_rfl) (by kernel_rfl) ((Below.refl _ _).drew) ?_
      rw [List.toList_toArray]
      refine q_value 8 rfl (.agg (scs b).toArray) (by kernel_rfl) (fun w' hC => run_op_load _ _ rfl B 0 rfl (scs b) ((Has.refl _).range (rB3.old hC)) (sz_rsta KB.out)) ?_
      simp only [Act.put, List.setIfInBounds_toArray, List.set_cons_zero, List.set_cons_succ]
      refine q_call 9 rfl (.agg (kcs xb).toArray) 26 #[.agg (scs b).toArray] (by kernel_rfl) (fun w' _ => run_op_call _ _ _ rfl _ (by simp only [List.map_toArray, List.map_cons, List.map_nil]; rfl) Tryz.func26 (by kernel_rfl) (by kernel_rfl) w') (fun w' hC => (CB.out w' (HKW.out _ (below_step bel3 bel3.size hC))).mono fun e w'' h => ⟨h.1, below_step hC hC.size h.2⟩) ?_
      simp only [Act.put, List.setIfInBounds_toArray, List.set_cons_zero, List.set_cons_succ]
      refine q_value 10 rfl (.agg (scs a).toArray) (by kernel_rfl) (fun w' hC => run_op_load _ _ rfl A 0 rfl (scs a) ((Has.refl _).range (rA3.old hC)) (sz_rsta KA.out)) ?_
      simp only [Act.put, List.setIfInBounds_toArray, List.set_cons_zero, List.set_cons_succ]
      refine q_call 11 rfl (.agg (kcs xa).toArray) 26 #[.agg (scs a).toArray] (by kernel_rfl) (fun w' _ => run_op_call _ _ _ rfl _ (by simp only [List.map_toArray, List.map_cons, List.map_nil]; rfl) Tryz.func26 (by kernel_rfl) (by kernel_rfl) w') (fun w' hC => (CA.out w' (HKW.out _ (below_step bel3 bel3.size hC))).mono fun e w'' h => ⟨h.1, below_step hC hC.size h.2⟩) ?_
      simp only [Act.put, List.setIfInBounds_toArray, List.set_cons_zero, List.set_cons_succ]
      refine q_call 12 rfl (.int .i64 z) 25 #[.agg (kcs xb).toArray, .agg (kcs xa).toArray] (by kernel_rfl) (fun w' _ => run_op_call _ _ _ rfl _ (by simp only [List.map_toArray, List.map_cons, List.map_nil]; rfl) Tryz.func25 (by kernel_rfl) (by kernel_rfl) w') (fun w' hC => (CC.out w').mono fun e w'' h => ⟨h.1, below_step hC hC.size h.2⟩) ?_
      simp only [Act.put, List.setIfInBounds_toArray, List.set_cons_zero, List.set_cons_succ]
      refine q_value 13 rfl (.bool u) (by kernel_rfl) (fun w' _ => cmp_gtr _ _ _ _ rfl .i64 z 0 rfl rfl u HZ.out w') ?_
      simp only [Act.put, List.setIfInBounds_toArray, List.set_cons_zero, List.set_cons_succ]
      refine q_value 5 rfl (.bool u) (by kernel_rfl) (fun w' _ => by kernel_rfl) ?_
      simp only [Act.put, List.setIfInBounds_toArray, List.set_cons_zero, List.set_cons_succ]
      refine wpQuiet_nil ?_
      intro w2 hC
      have xA := rA3.old hC; have xB := rB3.old hC; have bel9 := below_step bel3 bel3.size hC
      clear rA3 rB3 bel3 hC CA CB CC HZ
      go_wp2_with (first
        | ((with_reducible refine at_slot 14 ?_); (refine arm_load (o := ⟨some 14, _, _, _, _, _⟩) rfl _ _ rfl A 0 rfl (scs a) ((show Has (scs a) 0 (scs a) from Has.refl _).range (xA)) (sz_rsta KA.out) ?_))
        | ((with_reducible refine at_slot 15 ?_); (refine arm_load (o := ⟨some 15, _, _, _, _, _⟩) rfl _ _ rfl B 0 rfl (scs b) ((show Has (scs b) 0 (scs b) from Has.refl _).range (xB)) (sz_rsta KB.out) ?_)))
      refine (CN.out _).mono ?_
      rintro e y4 ⟨rfl, hB⟩
      have rA4 : Row y4 A 49 (scs a) := xA.old hB
      have rB4 : Row y4 B 49 (scs b) := xB.old hB
      have bel4 : Below w.heap.size w y4 := below_step bel9 bel9.size hB
      clear hB xA xB bel9
      go_wp2_with (first
        | ((with_reducible refine at_slot 19 ?_); (refine arm_load (o := ⟨some 19, _, _, _, _, _⟩) rfl _ _ rfl A 0 rfl (scs a) ((show Has (scs a) 0 (scs a) from Has.refl _).range (rA4)) (sz_rsta KA.out) ?_))
        | ((with_reducible refine at_slot 20 ?_); (refine arm_load (o := ⟨some 20, _, _, _, _, _⟩) rfl _ _ rfl B 0 rfl (scs b) ((show Has (scs b) 0 (scs b) from Has.refl _).range (rB4)) (sz_rsta KB.out) ?_)))
      refine (CD.out _).mono ?_
      rintro e y5 ⟨rfl, hB⟩
      have rA5 : Row y5 A 49 (scs a) := rA4.old hB
      have rB5 : Row y5 B 49 (scs b) := rB4.old hB
      have bel5 : Below w.heap.size w y5 := below_step bel4 bel4.size hB
      clear hB rA4 rB4 bel4
      go_wp2_with (first
        | ((with_reducible refine at_slot 26 ?_); (refine arm_want (.bool true) 26 rfl (by kernel_rfl) (cmp_gtr _ _ _ _ rfl .u32 (y : Int) (x : Int) rfl rfl true d2 _) ?_)))
      rw [HQ.out]
      go_ret
      exact ⟨rfl, bel5⟩
    · skip
      have HQ : Hid (v = u) := Lib.hid (by rw [HV.out, HU.out]; exact decide_eq_decide.2 (WW.out.trans ⟨fun g => by rcases g with g | g <;> omega, fun g => .inr ⟨h.symm, g⟩⟩))
      subst h
      have d1 : decide ((x : Int) > (x : Int)) = false := decide_eq_false (by omega)
      have d2 : decide ((x : Int) < (x : Int)) = false := decide_eq_false (by omega)
      have d3 : decide ((x : Int) = (x : Int)) = true := decide_eq_true (by omega)
      clear WW HV HU
      go_enter Tryz.func14, Tryz.ntmps14
      go_wp2_with (first
        | ((with_reducible refine at_slot 2 ?_); (refine arm_box (o := ⟨some 2, _, _, _, _, _⟩) rfl _ _ rfl (scs a) rfl ?_); intro A v1 Ae hv1 nv1)
        | ((with_reducible refine at_slot 3 ?_); (refine arm_box (o := ⟨some 3, _, _, _, _, _⟩) rfl _ _ rfl (scs b) rfl ?_); intro B v2 Be hv2 nv2))
      have q0 := Ae.out
      have q1 := nv1.size
      have q2 := Be.out
      have q3 := nv2.size
      have lA : w.heap.size ≤ A := by omega
      have lB : w.heap.size ≤ B := by omega
      have nAB : A ≠ B := by omega
      have nBA : B ≠ A := by omega
      have rA3 : Row v2 A 49 (scs a) := (hv1.old nv2.below)
      have rB3 : Row v2 B 49 (scs b) := hv2
      have bel3 : Below w.heap.size w v2 := (below_step (below_step (Below.refl _ _) (by omega) nv1.below) (by omega) nv2.below)
      clear q0 q1 q2 q3 Ae hv1 nv1 Be hv2 nv2
      refine wp_region_quiet (C := fun w' => Below v2.heap.size v2 w') (by kernel_rfl) (by kernel_rfl) ((Below.refl _ _).drew) ?_
      rw [List.toList_toArray]
      refine q_value 8 rfl (.agg (scs b).toArray) (by kernel_rfl) (fun w' hC => run_op_load _ _ rfl B 0 rfl (scs b) ((Has.refl _).range (rB3.old hC)) (sz_rsta KB.out)) ?_
      simp only [Act.put, List.setIfInBounds_toArray, List.set_cons_zero, List.set_cons_succ]
      refine q_call 9 rfl (.agg (kcs xb).toArray) 26 #[.agg (scs b).toArray] (by kernel_rfl) (fun w' _ => run_op_call _ _ _ rfl _ (by simp only [List.map_toArray, List.map_cons, List.map_nil]; rfl) Tryz.func26 (by kernel_rfl) (by kernel_rfl) w') (fun w' hC => (CB.out w' (HKW.out _ (below_step bel3 bel3.size hC))).mono fun e w'' h => ⟨h.1, below_step hC hC.size h.2⟩) ?_
      simp only [Act.put, List.setIfInBounds_toArray, List.set_cons_zero, List.set_cons_succ]
      refine q_value 10 rfl (.agg (scs a).toArray) (by kernel_rfl) (fun w' hC => run_op_load _ _ rfl A 0 rfl (scs a) ((Has.refl _).range (rA3.old hC)) (sz_rsta KA.out)) ?_
      simp only [Act.put, List.setIfInBounds_toArray, List.set_cons_zero, List.set_cons_succ]
      refine q_call 11 rfl (.agg (kcs xa).toArray) 26 #[.agg (scs a).toArray] (by kernel_rfl) (fun w' _ => run_op_call _ _ _ rfl _ (by simp only [List.map_toArray, List.map_cons, List.map_nil]; rfl) Tryz.func26 (by kernel_rfl) (by kernel_rfl) w') (fun w' hC => (CA.out w' (HKW.out _ (below_step bel3 bel3.size hC))).mono fun e w'' h => ⟨h.1, below_step hC hC.size h.2⟩) ?_
      simp only [Act.put, List.setIfInBounds_toArray, List.set_cons_zero, List.set_cons_succ]
      refine q_call 12 rfl (.int .i64 z) 25 #[.agg (kcs xb).toArray, .agg (kcs xa).toArray] (by kernel_rfl) (fun w' _ => run_op_call _ _ _ rfl _ (by simp only [List.map_toArray, List.map_cons, List.map_nil]; rfl) Tryz.func25 (by kernel_rfl) (by kernel_rfl) w') (fun w' hC => (CC.out w').mono fun e w'' h => ⟨h.1, below_step hC hC.size h.2⟩) ?_
      simp only [Act.put, List.setIfInBounds_toArray, List.set_cons_zero, List.set_cons_succ]
      refine q_value 13 rfl (.bool u) (by kernel_rfl) (fun w' _ => cmp_gtr _ _ _ _ rfl .i64 z 0 rfl rfl u HZ.out w') ?_
      simp only [Act.put, List.setIfInBounds_toArray, List.set_cons_zero, List.set_cons_succ]
      refine q_value 5 rfl (.bool u) (by kernel_rfl) (fun w' _ => by kernel_rfl) ?_
      simp only [Act.put, List.setIfInBounds_toArray, List.set_cons_zero, List.set_cons_succ]
      refine wpQuiet_nil ?_
      intro w2 hC
      have xA := rA3.old hC; have xB := rB3.old hC; have bel9 := below_step bel3 bel3.size hC
      clear rA3 rB3 bel3 hC CA CB CC HZ
      go_wp2_with (first
        | ((with_reducible refine at_slot 14 ?_); (refine arm_load (o := ⟨some 14, _, _, _, _, _⟩) rfl _ _ rfl A 0 rfl (scs a) ((show Has (scs a) 0 (scs a) from Has.refl _).range (xA)) (sz_rsta KA.out) ?_))
        | ((with_reducible refine at_slot 15 ?_); (refine arm_load (o := ⟨some 15, _, _, _, _, _⟩) rfl _ _ rfl B 0 rfl (scs b) ((show Has (scs b) 0 (scs b) from Has.refl _).range (xB)) (sz_rsta KB.out) ?_)))
      refine (CN.out _).mono ?_
      rintro e y4 ⟨rfl, hB⟩
      have rA4 : Row y4 A 49 (scs a) := xA.old hB
      have rB4 : Row y4 B 49 (scs b) := xB.old hB
      have bel4 : Below w.heap.size w y4 := below_step bel9 bel9.size hB
      clear hB xA xB bel9
      go_wp2_with (first
        | ((with_reducible refine at_slot 19 ?_); (refine arm_load (o := ⟨some 19, _, _, _, _, _⟩) rfl _ _ rfl A 0 rfl (scs a) ((show Has (scs a) 0 (scs a) from Has.refl _).range (rA4)) (sz_rsta KA.out) ?_))
        | ((with_reducible refine at_slot 20 ?_); (refine arm_load (o := ⟨some 20, _, _, _, _, _⟩) rfl _ _ rfl B 0 rfl (scs b) ((show Has (scs b) 0 (scs b) from Has.refl _).range (rB4)) (sz_rsta KB.out) ?_)))
      refine (CD.out _).mono ?_
      rintro e y5 ⟨rfl, hB⟩
      have rA5 : Row y5 A 49 (scs a) := rA4.old hB
      have rB5 : Row y5 B 49 (scs b) := rB4.old hB
      have bel5 : Below w.heap.size w y5 := below_step bel4 bel4.size hB
      clear hB rA4 rB4 bel4
      go_wp2_with (first
        | ((with_reducible refine at_slot 26 ?_); (refine arm_want (.bool false) 26 rfl (by kernel_rfl) (cmp_gtr _ _ _ _ rfl .u32 (x : Int) (x : Int) rfl rfl false d2 _) ?_))
        | ((with_reducible refine at_slot 30 ?_); (refine arm_want (.bool true) 30 rfl (by kernel_rfl) (cmp_eql _ _ .u32 (by kernel_rfl) _ _ rfl .u32 (x : Int) (x : Int) rfl rfl true d3 _) ?_)))
      rw [HQ.out]
      go_ret
      exact ⟨rfl, bel5⟩
    · skip
      have HQ : Hid (v = false) := Lib.hid (by rw [HV.out]; exact decide_eq_false (fun g => by rcases WW.out.1 g with g | g <;> omega))
      have d1 : decide ((y : Int) > (x : Int)) = false := decide_eq_false (by omega)
      have d2 : decide ((x : Int) < (y : Int)) = false := decide_eq_false (by omega)
      have d3 : decide ((y : Int) = (x : Int)) = false := decide_eq_false (by omega)
      clear h WW HV HU
      go_enter Tryz.func14, Tryz.ntmps14
      go_wp2_with (first
        | ((with_reducible refine at_slot 2 ?_); (refine arm_box (o := ⟨some 2, _, _, _, _, _⟩) rfl _ _ rfl (scs a) rfl ?_); intro A v1 Ae hv1 nv1)
        | ((with_reducible refine at_slot 3 ?_); (refine arm_box (o := ⟨some 3, _, _, _, _, _⟩) rfl _ _ rfl (scs b) rfl ?_); intro B v2 Be hv2 nv2))
      have q0 := Ae.out
      have q1 := nv1.size
      have q2 := Be.out
      have q3 := nv2.size
      have lA : w.heap.size ≤ A := by omega
      have lB : w.heap.size ≤ B := by omega
      have nAB : A ≠ B := by omega
      have nBA : B ≠ A := by omega
      have rA3 : Row v2 A 49 (scs a) := (hv1.old nv2.below)
      have rB3 : Row v2 B 49 (scs b) := hv2
      have bel3 : Below w.heap.size w v2 := (below_step (below_step (Below.refl _ _) (by omega) nv1.below) (by omega) nv2.below)
      clear q0 q1 q2 q3 Ae hv1 nv1 Be hv2 nv2
      refine wp_region_quiet (C := fun w' => Below v2.heap.size v2 w') (by kernel_rfl) (by kernel_rfl) ((Below.refl _ _).drew) ?_
      rw [List.toList_toArray]
      refine q_value 8 rfl (.agg (scs b).toArray) (by kernel_rfl) (fun w' hC => run_op_load _ _ rfl B 0 rfl (scs b) ((Has.refl _).range (rB3.old hC)) (sz_rsta KB.out)) ?_
      simp only [Act.put, List.setIfInBounds_toArray, List.set_cons_zero, List.set_cons_succ]
      refine q_call 9 rfl (.agg (kcs xb).toArray) 26 #[.agg (scs b).toArray] (by kernel_rfl) (fun w' _ => run_op_call _ _ _ rfl _ (by simp only [List.map_toArray, List.map_cons, List.map_nil]; rfl) Tryz.func26 (by kernel_rfl) (by kernel_rfl) w') (fun w' hC => (CB.out w' (HKW.out _ (below_step bel3 bel3.size hC))).mono fun e w'' h => ⟨h.1, below_step hC hC.size h.2⟩) ?_
      simp only [Act.put, List.setIfInBounds_toArray, List.set_cons_zero, List.set_cons_succ]
      refine q_value 10 rfl (.agg (scs a).toArray) (by kernel_rfl) (fun w' hC => run_op_load _ _ rfl A 0 rfl (scs a) ((Has.refl _).range (rA3.old hC)) (sz_rsta KA.out)) ?_
      simp only [Act.put, List.setIfInBounds_toArray, List.set_cons_zero, List.set_cons_succ]
      refine q_call 11 rfl (.agg (kcs xa).toArray) 26 #[.agg (scs a).toArray] (by kernel_rfl) (fun w' _ => run_op_call _ _ _ rfl _ (by simp only [List.map_toArray, List.map_cons, List.map_nil]; rfl) Tryz.func26 (by kernel_rfl) (by kernel_rfl) w') (fun w' hC => (CA.out w' (HKW.out _ (below_step bel3 bel3.size hC))).mono fun e w'' h => ⟨h.1, below_step hC hC.size h.2⟩) ?_
      simp only [Act.put, List.setIfInBounds_toArray, List.set_cons_zero, List.set_cons_succ]
      refine q_call 12 rfl (.int .i64 z) 25 #[.agg (kcs xb).toArray, .agg (kcs xa).toArray] (by kernel_rfl) (fun w' _ => run_op_call _ _ _ rfl _ (by simp only [List.map_toArray, List.map_cons, List.map_nil]; rfl) Tryz.func25 (by kernel_rfl) (by kernel_rfl) w') (fun w' hC => (CC.out w').mono fun e w'' h => ⟨h.1, below_step hC hC.size h.2⟩) ?_
      simp only [Act.put, List.setIfInBounds_toArray, List.set_cons_zero, List.set_cons_succ]
      refine q_value 13 rfl (.bool u) (by kernel_rfl) (fun w' _ => cmp_gtr _ _ _ _ rfl .i64 z 0 rfl rfl u HZ.out w') ?_
      simp only [Act.put, List.setIfInBounds_toArray, List.set_cons_zero, List.set_cons_succ]
      refine q_value 5 rfl (.bool u) (by kernel_rfl) (fun w' _ => by kernel_rfl) ?_
      simp only [Act.put, List.setIfInBounds_toArray, List.set_cons_zero, List.set_cons_succ]
      refine wpQuiet_nil ?_
      intro w2 hC
      have xA := rA3.old hC; have xB := rB3.old hC; have bel9 := below_step bel3 bel3.size hC
      clear rA3 rB3 bel3 hC CA CB CC HZ
      go_wp2_with (first
        | ((with_reducible refine at_slot 14 ?_); (refine arm_load (o := ⟨some 14, _, _, _, _, _⟩) rfl _ _ rfl A 0 rfl (scs a) ((show Has (scs a) 0 (scs a) from Has.refl _).range (xA)) (sz_rsta KA.out) ?_))
        | ((with_reducible refine at_slot 15 ?_); (refine arm_load (o := ⟨some 15, _, _, _, _, _⟩) rfl _ _ rfl B 0 rfl (scs b) ((show Has (scs b) 0 (scs b) from Has.refl _).range (xB)) (sz_rsta KB.out) ?_)))
      refine (CN.out _).mono ?_
      rintro e y4 ⟨rfl, hB⟩
      have rA4 : Row y4 A 49 (scs a) := xA.old hB
      have rB4 : Row y4 B 49 (scs b) := xB.old hB
      have bel4 : Below w.heap.size w y4 := below_step bel9 bel9.size hB
      clear hB xA xB bel9
      go_wp2_with (first
        | ((with_reducible refine at_slot 19 ?_); (refine arm_load (o := ⟨some 19, _, _, _, _, _⟩) rfl _ _ rfl A 0 rfl (scs a) ((show Has (scs a) 0 (scs a) from Has.refl _).range (rA4)) (sz_rsta KA.out) ?_))
        | ((with_reducible refine at_slot 20 ?_); (refine arm_load (o := ⟨some 20, _, _, _, _, _⟩) rfl _ _ rfl B 0 rfl (scs b) ((show Has (scs b) 0 (scs b) from Has.refl _).range (rB4)) (sz_rsta KB.out) ?_)))
      refine (CD.out _).mono ?_
      rintro e y5 ⟨rfl, hB⟩
      have rA5 : Row y5 A 49 (scs a) := rA4.old hB
      have rB5 : Row y5 B 49 (scs b) := rB4.old hB
      have bel5 : Below w.heap.size w y5 := below_step bel4 bel4.size hB
      clear hB rA4 rB4 bel4
      go_wp2_with (first
        | ((with_reducible refine at_slot 26 ?_); (refine arm_want (.bool false) 26 rfl (by kernel_rfl) (cmp_gtr _ _ _ _ rfl .u32 (y : Int) (x : Int) rfl rfl false d2 _) ?_))
        | ((with_reducible refine at_slot 30 ?_); (refine arm_want (.bool false) 30 rfl (by kernel_rfl) (cmp_eql _ _ .u32 (by kernel_rfl) _ _ rfl .u32 (y : Int) (x : Int) rfl rfl false d3 _) ?_)))
      rw [HQ.out]
      go_ret
      exact ⟨rfl, bel5⟩
structure RfRel (w : World) (t : Sta) (l : List Sta) (A R : Nat) (n i : Value) (wr : World) : Prop where
  ex : ∃ k : Nat, k ≤ l.length ∧ i = .int .i64 (k : Int) ∧ n = .int .i64 (((foldF t (l.take k)).2 : Nat) : Int) ∧ Row wr A 49 (scs (foldF t (l.take k)).1)
  rr : Row wr R 49 (scs zs)
  bel : Below w.heap.size w wr
set_option maxHeartbeats 4000000 in
set_option maxRecDepth 100000 in
theorem rfold_any (t : Sta) (l : List Sta) (P : Option Addr) (pc : Nat) (w : World) (kt : t.Ok) (rt : SRt t) (hs : At kR w P l) (hr : ∀ s ∈ l, SRt s) (hm : l.length ≤ 1000) (hk : w.rangeAt 1 0 (u32s ks)) :
    Calls Tryz.prog 10 #[.agg (scs t).toArray, .slice P l.length pc] w fun e w' => e = .returned (.tuple #[.agg (scs (foldF t l).1).toArray, .int .i64 (((foldF t l).2 : Nat) : Int)]) ∧ Below w.heap.size w w' := by
  have hk1 : 1 < w.heap.size := range_lt hk (by simp [u32s, ks])
  have HKW : Hid (∀ w', Below w.heap.size w w' → w'.rangeAt 1 0 (u32s ks)) := Lib.hid fun w' hb => range_block hk (hb.block _ hk1)
  have HS := Lib.hid hs; have KT := Lib.hid kt; have HML := Lib.hid hm
  have FOK := Lib.hid (fun k => fold_take_ok kt hs.ok k); have FRT := Lib.hid (fun k => fold_take_right rt hr k)
  have FST := Lib.hid (fun k s (h : l[k]? = some s) => foldF_take (t := t) h)
  have FLE : Hid (∀ k, (foldF t (l.take k)).2 ≤ 1000) := Lib.hid (fun k => Nat.le_trans (foldF_le _ _) (Nat.le_trans (by rw [List.length_take]; omega) hm))
  have LR : Hid (∀ k s, l[k]? = some s → SRt s) := Lib.hid (fun k s h => hr s (List.mem_of_getElem? h))
  have CW := Lib.hid (fun a b w0 ka kb ra rb h => rwins_any a b w0 ka kb ra rb h)
  have FAL : Hid (l.take l.length = l) := Lib.hid (List.take_length)
  clear kt rt hs hr hm hk hk1
  go_enter Tryz.func10, Tryz.ntmps10
  go_wp2_with (first
    | ((with_reducible refine at_slot 2 ?_); (refine arm_box (o := ⟨some 2, _, _, _, _, _⟩) rfl _ _ rfl (scs t) rfl ?_); intro A v1 Ae hv1 nv1)
    | ((with_reducible refine at_slot 4 ?_); (refine arm_alloc (o := ⟨some 4, _, _, _, _, _⟩) rfl _ rfl (scs zs) z_rsta ?_); intro R v2 Re hv2 nv2))
  have q0 := Ae.out
  have q1 := nv1.size
  have q2 := Re.out
  have q3 := nv2.size
  have lA : w.heap.size ≤ A := by omega
  have lR : w.heap.size ≤ R := by omega
  have nAR : A ≠ R := by omega
  have nRA : R ≠ A := by omega
  have rA3 : Row v2 A 49 (scs t) := (hv1.old nv2.below)
  have rR3 : Row v2 R 49 (scs zs) := hv2
  have bel3 : Below w.heap.size w v2 := (below_step (below_step (Below.refl _ _) (by omega) nv1.below) (by omega) nv2.below)
  clear q0 q1 q2 q3 Ae hv1 nv1 Re hv2 nv2
  have HNAR := Lib.hid nAR; have LA := Lib.hid lA; have LRr := Lib.hid lR
  have h0 : RfRel w t l A R (.int .i64 0) (.int .i64 0) v2 := ⟨⟨0, by omega, rfl, rfl, rA3⟩, rR3, bel3⟩
  clear rA3 rR3 bel3 nAR nRA
  go_loopw [6, 7] (fun n i wr => RfRel w t l A R n i wr) (fun _ i _ => l.length - (intOf i).toNat)
  case atStart => exact h0
  case round =>
    clear h0
    obtain ⟨⟨k, hk, rfl, rfl, rA⟩, rR, bel⟩ := hrel
    by_cases hlt : k < l.length
    · obtain ⟨s, g, q, ht, ks', hP, hgl, hrs⟩ := HS.out.get hlt
      subst hP
      have RT := Lib.hid (range_block hrs (bel.block g hgl)); have KS := Lib.hid ks'; have HT := Lib.hid ht; have HGL := Lib.hid hgl
      have KF := Lib.hid (FOK.out k); have RF := Lib.hid (FRT.out k); have RS := Lib.hid (LR.out k s ht); have HN := Lib.hid (FLE.out k)
      have HF := Lib.hid (FST.out k s ht)
      have ik : (k : Int) < (l.length : Int) := by omega
      clear hrs ks' ht FST FOK FRT FLE hgl
      generalize foldF t (l.take k) = qq at rA KF RF HN HF ⊢
      obtain ⟨qs, qn⟩ := qq
      simp only at rA KF RF HN
      have CWs := Lib.hid (fun w0 h => CW.out qs s w0 KF.out KS.out RF.out RS.out h); clear CW
      by_cases hw : winP qs s
      · rw [decide_eq_true hw] at CWs
        have HE := Lib.hid (HF.out.trans (step_win (q := (qs, qn)) hw)); clear hw HF
        have hqn : qn < 100000 := by have := HN.out; omega
        have hk1000 : k < 100000 := by have := HML.out; omega
        go_wp2_with fail
        refine wp_region_quiet (C := fun w' => Below wr.heap.size wr w') (by kernel_rfl) (by kernel_rfl) ((Below.refl _ _).drew) ?_
        rw [List.toList_toArray]
        refine q_value 14 rfl (.agg (scs qs).toArray) (by kernel_rfl) (fun w' hC => run_op_load _ _ rfl A 0 rfl (scs qs) ((Has.refl _).range (rA.old hC)) (sz_rsta KF.out)) ?_
        simp only [Act.put, List.setIfInBounds_toArray, List.set_cons_zero, List.set_cons_succ]
        refine q_value 15 rfl (.slice (some ⟨g, q, none⟩) l.length pc) (by kernel_rfl) (fun w' _ => by kernel_rfl) ?_
        simp only [Act.put, List.setIfInBounds_toArray, List.set_cons_zero, List.set_cons_succ]
        refine q_value 16 rfl (.int .i64 (k : Int)) (by kernel_rfl) (fun w' _ => by kernel_rfl) ?_
        simp only [Act.put, List.setIfInBounds_toArray, List.set_cons_zero, List.set_cons_succ]
        refine q_value 17 rfl (.pointer (some ⟨g, q + k * 363, none⟩)) (by kernel_rfl) (fun w' _ => run_op_index fR _ _ rfl g q _ _ rfl .i64 _ rfl k rfl hlt w') ?_
        simp only [Act.put, List.setIfInBounds_toArray, List.set_cons_zero, List.set_cons_succ]
        refine q_value 18 rfl (.agg (scs s).toArray) (by kernel_rfl) (fun w' hC => run_op_load _ _ rfl g (q + k * 363) rfl (scs s) (range_block RT.out (hC.block g (Nat.lt_of_lt_of_le HGL.out bel.size))) (sz_rsta KS.out)) ?_
        simp only [Act.put, List.setIfInBounds_toArray, List.set_cons_zero, List.set_cons_succ]
        refine q_call 19 rfl (.bool true) 14 #[.agg (scs qs).toArray, .agg (scs s).toArray] (by kernel_rfl) (fun w' _ => run_op_call _ _ _ rfl _ (by simp only [List.map_toArray, List.map_cons, List.map_nil]; rfl) Tryz.func14 (by kernel_rfl) (by kernel_rfl) w') (fun w' hC => (CWs.out w' (HKW.out _ (below_step bel bel.size hC))).mono fun e w'' h => ⟨h.1, below_step hC hC.size h.2⟩) ?_
        simp only [Act.put, List.setIfInBounds_toArray, List.set_cons_zero, List.set_cons_succ]
        refine wpQuiet_nil ?_
        intro w2 hC
        have rA2 := rA.old hC; have rR2 := rR.old hC; have bel2 := below_step bel bel.size hC
        have RT2 := Lib.hid (range_block RT.out (hC.block g (Nat.lt_of_lt_of_le HGL.out bel.size)))
        clear rA rR bel hC RT
        go_wp2_with (first
          | ((with_reducible refine at_slot 22 ?_); (refine arm_want (.pointer (some ⟨g, q + k * 363, none⟩)) 22 rfl (by kernel_rfl) (run_op_index fR _ _ rfl g q _ _ rfl .i64 _ rfl k rfl hlt _) ?_))
          | ((with_reducible refine at_slot 23 ?_); (refine arm_load (o := ⟨some 23, _, _, _, _, _⟩) rfl _ _ rfl g (q + k * 363) rfl (scs s) (RT2.out) (sz_rsta KS.out) ?_))
          | ((with_reducible refine arm_store (o := ⟨none, _, _, _, _, _⟩) rfl _ _ _ rfl A 0 rfl (scs s) rfl _ _ (rA2) (by rw [scs_len KF.out, scs_len KS.out]; omega) (scs_one _) (sz_rsta KS.out) ?_); intro w3 hw3 ow3 sw3))
        try simp only [Act.put]
        have rA3 := hw3.congr (lay_all _ _ (by rw [scs_len KF.out, scs_len KS.out]))
        have rR3 := rR2.only ow3 (Ne.symm HNAR.out)
        have bel3 : Below w.heap.size w w3 := below_only bel2 ow3 LA.out bel2.size
        clear hw3 ow3 sw3 rA2 rR2 bel2
        go_roundw
        case rel => exact ⟨⟨k + 1, by omega, by go_num, by rw [HE.out]; go_num, by rw [HE.out]; exact rA3⟩, rR3, bel3⟩
        case measure => simp [intOf]; omega
      · rw [decide_eq_false hw] at CWs
        have HE := Lib.hid (HF.out.trans (step_stay (q := (qs, qn)) hw)); clear hw HF
        have hk1000 : k < 100000 := by have := HML.out; omega
        go_wp2_with fail
        refine wp_region_quiet (C := fun w' => Below wr.heap.size wr w') (by kernel_rfl) (by kernel_rfl) ((Below.refl _ _).drew) ?_
        rw [List.toList_toArray]
        refine q_value 14 rfl (.agg (scs qs).toArray) (by kernel_rfl) (fun w' hC => run_op_load _ _ rfl A 0 rfl (scs qs) ((Has.refl _).range (rA.old hC)) (sz_rsta KF.out)) ?_
        simp only [Act.put, List.setIfInBounds_toArray, List.set_cons_zero, List.set_cons_succ]
        refine q_value 15 rfl (.slice (some ⟨g, q, none⟩) l.length pc) (by kernel_rfl) (fun w' _ => by kernel_rfl) ?_
        simp only [Act.put, List.setIfInBounds_toArray, List.set_cons_zero, List.set_cons_succ]
        refine q_value 16 rfl (.int .i64 (k : Int)) (by kernel_rfl) (fun w' _ => by kernel_rfl) ?_
        simp only [Act.put, List.setIfInBounds_toArray, List.set_cons_zero, List.set_cons_succ]
        refine q_value 17 rfl (.pointer (some ⟨g, q + k * 363, none⟩)) (by kernel_rfl) (fun w' _ => run_op_index fR _ _ rfl g q _ _ rfl .i64 _ rfl k rfl hlt w') ?_
        simp only [Act.put, List.setIfInBounds_toArray, List.set_cons_zero, List.set_cons_succ]
        refine q_value 18 rfl (.agg (scs s).toArray) (by kernel_rfl) (fun w' hC => run_op_load _ _ rfl g (q + k * 363) rfl (scs s) (range_block RT.out (hC.block g (Nat.lt_of_lt_of_le HGL.out bel.size))) (sz_rsta KS.out)) ?_
        simp only [Act.put, List.setIfInBounds_toArray, List.set_cons_zero, List.set_cons_succ]
        refine q_call 19 rfl (.bool false) 14 #[.agg (scs qs).toArray, .agg (scs s).toArray] (by kernel_rfl) (fun w' _ => run_op_call _ _ _ rfl _ (by simp only [List.map_toArray, List.map_cons, List.map_nil]; rfl) Tryz.func14 (by kernel_rfl) (by kernel_rfl) w') (fun w' hC => (CWs.out w' (HKW.out _ (below_step bel bel.size hC))).mono fun e w'' h => ⟨h.1, below_step hC hC.size h.2⟩) ?_
        simp only [Act.put, List.setIfInBounds_toArray, List.set_cons_zero, List.set_cons_succ]
        refine wpQuiet_nil ?_
        intro w2 hC
        have rA2 := rA.old hC; have rR2 := rR.old hC; have bel2 := below_step bel bel.size hC
        have RT2 := Lib.hid (range_block RT.out (hC.block g (Nat.lt_of_lt_of_le HGL.out bel.size)))
        clear rA rR bel hC RT
        go_wp2_with fail
        go_roundw
        case rel => exact ⟨⟨k + 1, by omega, by go_num, by rw [HE.out], by rw [HE.out]; exact rA2⟩, rR2, bel2⟩
        case measure => simp [intOf]; omega
    · obtain rfl : k = l.length := by omega
      have KF := Lib.hid (FOK.out l.length)
      rw [FAL.out] at rA KF
      clear FST FOK FRT FLE CW
      have FAL2 := FAL.out
      rw [FAL2]
      generalize hq : foldF t l = qq at rA KF ⊢
      have HQ := Lib.hid hq
      clear hq FAL2
      obtain ⟨qs, qn⟩ := qq
      simp only at rA KF ⊢
      have nAR := HNAR.out; have nRA := Ne.symm nAR
      go_wp2_with (first
        | ((with_reducible refine at_slot 26 ?_); (refine arm_load (o := ⟨some 26, _, _, _, _, _⟩) rfl _ _ rfl A 0 rfl (scs qs) ((show Has (scs qs) 0 (scs qs) from Has.refl _).range (rA)) (sz_rsta KF.out) ?_))
        | ((with_reducible refine arm_store (o := ⟨none, _, _, _, _, _⟩) rfl _ _ _ rfl R 0 rfl (scs qs) rfl _ _ (rR) (fitS KF.out) (scs_one _) (sz_rsta KF.out) ?_); intro v101 hv101 ov101 sv101))
      have q0 := sv101.out
      have q1 := rA.lt
      have q2 := rR.lt
      have q3 := bel.size
      have rA102 : Row v101 A 49 (scs qs) := (rA.only ov101 nAR)
      have rR102 : Row v101 R 49 (scs qs) := (hv101.congr (allS KF.out))
      have bel102 : Below w.heap.size w v101 := (below_only bel ov101 lR (by omega))
      clear q0 q1 q2 q3 rA rR bel hv101 ov101 sv101
      rw [HQ.out]
      exact bodyPost_ret (v := .tuple #[.agg (scs qs).toArray, .int .i64 (qn : Int)]) (result_row2 (p := 4) (u := 5) (ty := 49) (t := 49) (by kernel_rfl) _ _ R (scs qs) (.int .i64 (qn : Int)) rfl rfl rR102 (sz_rsta KF.out)) rfl ⟨rfl, bel102⟩
end Go.Proofs.YtffpifljeeikfaaGreatDoor.Cz
