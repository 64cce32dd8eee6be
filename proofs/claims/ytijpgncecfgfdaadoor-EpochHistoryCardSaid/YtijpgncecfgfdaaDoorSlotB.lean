/-
  The contracts of some functions of packages slot and num over natural numbers, with what the walk needs of memory: nothing that was there changes ('Below'). Over this seat's translation.
-/
import Derived.Test.YtijpgncecfgfdaaDoorNumAll
import Derived.Test.YtijpgncecfgfdaaDoorMemAll
import Derived.BigQuiet
namespace Go.Proofs.YtijpgncecfgfdaaDoor.Slot
open Go.ChangeShapes Go.WideShapes Go.ChangeAt Go.RowKit Go.Proofs.YtijpgncecfgfdaaDoor.Mem
open Num (in32 keep32)
set_option linter.unusedVariables false

theorem partedB_any (n b : Nat) (w : World) (h1 : n < 4294967296) (b0 : 1 ≤ b) (b1 : b < 4294967296) :
    Calls Tryd.prog 37 #[.int .u32 (n : Int), .int .u32 (b : Int)] w fun e w' => e = .returned (.tuple #[.int .u32 ((n : Int) / (b : Int)), .int .u32 ((n : Int) % (b : Int))]) ∧ Below w.heap.size w w' := by
  have hz : ((b : Int) != 0) = true := bne_iff_ne.2 (by omega)
  have hz2 : ((b : Int) == 0) = false := beq_eq_false_iff_ne.2 (by omega)
  have hd0 : 0 ≤ (n : Int) / (b : Int) := Int.ediv_nonneg (by omega) (by omega)
  have hd1 : (n : Int) / (b : Int) ≤ 4294967295 := Int.le_trans (Int.ediv_le_self (b : Int) (by omega)) (by omega)
  have hm0 : 0 ≤ (n : Int) % (b : Int) := Int.emod_nonneg (n : Int) (by omega)
  have hm1 : (n : Int) % (b : Int) ≤ 4294967295 := by have := Int.emod_lt_of_pos (n : Int) (by omega : 0 < (b : Int)); omega
  go_enter Tryd.func37, Tryd.ntmps37
  go_wp2_with fail
  go_quiet (fail)
  go_wp2
  go_ret2
  exact ⟨rfl, below_drewN _ _ _⟩
theorem epochB_any (n : Nat) (w : World) (h1 : n < 4294967296) :
    Calls Tryd.prog 29 #[.int .u32 (n : Int)] w fun e w' => e = .returned (.int .u32 ((n / 24 : Nat) : Int)) ∧ Below w.heap.size w w' := by
  have C := partedB_any n 24 w h1 (by omega) (by omega)
  go_enter Tryd.func29, Tryd.ntmps29
  go_wp2_with fail
  refine C.mono ?_
  rintro e w1 ⟨rfl, g1⟩
  go_wp2
  go_ret
  exact ⟨congrArg (fun n => Ending.returned (.int .u32 n)) (by omega), g1⟩
theorem placeB_any (n : Nat) (w : World) (h1 : n < 4294967296) :
    Calls Tryd.prog 32 #[.int .u32 (n : Int)] w fun e w' => e = .returned (.int .u32 ((n % 24 : Nat) : Int)) ∧ Below w.heap.size w w' := by
  have C := partedB_any n 24 w h1 (by omega) (by omega)
  go_enter Tryd.func32, Tryd.ntmps32
  go_wp2_with fail
  refine C.mono ?_
  rintro e w1 ⟨rfl, g1⟩
  go_wp2
  go_ret
  exact ⟨congrArg (fun n => Ending.returned (.int .u32 n)) (by omega), g1⟩
theorem lockingB_any (n : Nat) (w : World) (h1 : n < 4294967296) :
    Calls Tryd.prog 25 #[.int .u32 (n : Int)] w fun e w' => e = .returned (.bool (decide (n % 24 < 16))) ∧ Below w.heap.size w w' := by
  have C := placeB_any n w h1
  have hm : n % 24 < 24 := Nat.mod_lt _ (by omega)
  have hd : Hid (decide (((n % 24 : Nat) : Int) < 16) = decide (n % 24 < 16)) := Lib.hid (by rw [decide_eq_decide]; omega)
  generalize n % 24 = m at C hm hd ⊢
  go_enter Tryd.func25, Tryd.ntmps25
  go_wp2_with fail
  refine C.mono ?_
  rintro e w1 ⟨rfl, g1⟩
  go_wp2
  go_ret
  exact ⟨congrArg (fun b => Ending.returned (.bool b)) hd.out, g1⟩
theorem turnsB_any (a b : Nat) (w : World) (h1 : a < 4294967296) (h2 : b < 4294967296) :
    Calls Tryd.prog 22 #[.int .u32 (a : Int), .int .u32 (b : Int)] w fun e w' => e = .returned (.bool (decide (a / 24 < b / 24))) ∧ Below w.heap.size w w' := by
  have C1 := fun w0 => Lib.hid (epochB_any b w0 h2)
  have C2 := fun w0 => Lib.hid (epochB_any a w0 h1)
  have ha : a / 24 < 4294967296 := by omega
  have hb : b / 24 < 4294967296 := by omega
  have hd : Hid (decide (((a / 24 : Nat) : Int) < ((b / 24 : Nat) : Int)) = decide (a / 24 < b / 24)) := Lib.hid (by rw [decide_eq_decide]; omega)
  generalize a / 24 = m at C1 C2 ha hd ⊢
  generalize b / 24 = k at C1 C2 hb hd ⊢
  go_enter Tryd.func22, Tryd.ntmps22
  go_wp2_with fail
  refine (C1 _).out.mono ?_
  rintro e w1 ⟨rfl, g1⟩
  go_wp2_with fail
  refine (C2 _).out.mono ?_
  rintro e w2 ⟨rfl, g2⟩
  go_wp2
  go_ret
  exact ⟨rfl, below_step g1 g1.size g2⟩
theorem repoch_nat (n : Nat) (w : World) (h1 : n < 4294967296) :
    Calls Tryd.prog 14 #[.int .u32 (n : Int)] w fun e w' => e = .returned (.int .u32 ((n / 24 : Nat) : Int)) ∧ w = w' :=
  (repoch_any (n : Int) w (by omega) (by omega)).mono fun e w' h => ⟨by rw [h.1]; exact congrArg (fun n => Ending.returned (.int .u32 n)) (by omega), h.2⟩
theorem rlocking_nat (n : Nat) (w : World) (h1 : n < 4294967296) :
    Calls Tryd.prog 16 #[.int .u32 (n : Int)] w fun e w' => e = .returned (.bool (decide (n % 24 < 16))) ∧ w = w' :=
  (rlocking_any (n : Int) w (by omega) (by omega)).mono fun e w' h => ⟨by rw [h.1]; exact congrArg (fun n => Ending.returned (.bool n)) (by rw [decide_eq_decide]; omega), h.2⟩
theorem later_fits (a b s : Nat) (w : World) (hs : s = a + b) (hb : s < 4294967296) :
    Calls Tryd.prog 13 #[.int .u32 (a : Int), .int .u32 (b : Int)] w fun e w' => e = .returned (.tuple #[.int .u32 (s : Int), .int .i64 0]) ∧ w = w' := by
  have hi : Num.in32 ((a : Int) + (b : Int)) = true := by unfold Num.in32; simp; omega
  have hk : Num.keep32 ((a : Int) + (b : Int)) = (s : Int) := by unfold Num.keep32; rw [if_pos hi]; omega
  have h := rlater_any (a : Int) (b : Int) w (by omega) (by omega) (by omega) (by omega)
  rw [hi, hk] at h
  exact h
theorem later_over (a b : Nat) (w : World) (ha : a < 4294967296) (hb : b < 4294967296) (hs : 4294967296 ≤ a + b) :
    Calls Tryd.prog 13 #[.int .u32 (a : Int), .int .u32 (b : Int)] w fun e w' => e = .returned (.tuple #[.int .u32 0, .int .i64 5]) ∧ w = w' := by
  have hi : Num.in32 ((a : Int) + (b : Int)) = false := by unfold Num.in32; simp; omega
  have h := rlater_any (a : Int) (b : Int) w (by omega) (by omega) (by omega) (by omega)
  rw [hi, keep32_no0 hi] at h
  exact h
theorem add32B_any (a b : Int) (w : World) (h0 : 0 ≤ a) (h1 : a ≤ 4294967295) (h2 : 0 ≤ b) (h3 : b ≤ 4294967295) :
    Calls Tryd.prog 31 #[.int .u32 a, .int .u32 b] w fun e w' => e = .returned (.tuple #[.int .u32 (keep32 (a + b)), .bool (in32 (a + b))]) ∧ Below w.heap.size w w' := by
  go_enter Tryd.func31, Tryd.ntmps31
  go_wp2_with fail
  refine (Num.told32_two _ _ _ _).mono ?_
  rintro e w' ⟨rfl, rfl⟩
  go_wp2
  go_ret2
  have hp := Num.add32_plain a b h0 h1 h2 h3
  exact ⟨Num.ret_two (Num.kept32 hp fun h => by have := Num.is32 h; omega) hp, (Below.refl _ _).alloc (Nat.le_refl _) _⟩
end Go.Proofs.YtijpgncecfgfdaaDoor.Slot
