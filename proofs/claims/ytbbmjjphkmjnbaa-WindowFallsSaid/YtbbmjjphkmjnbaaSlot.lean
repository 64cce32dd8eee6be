/-
  The contracts of package slot's functions, and of the document's answers for them: what each call returns for every argument, and that nothing that was there changes.
-/
import Derived.Test.YtbbmjjphkmjnbaaNum
import Derived.BigQuiet
namespace Go.Proofs.Ytbbmjjphkmjnbaa.Slot
open Go.ChangeShapes Go.WideShapes Go.ChangeAt Go.RowKit
open Num (in32 keep32 grown_trans ret_int)
set_option linter.unusedVariables false

/-- An error's number: OK where it fits, else ErrOver. -/
def over (x : Bool) : Int := if x = true then 0 else 5
theorem over_yes : over true = 0 := rfl
theorem over_no : over false = 5 := rfl
theorem keep32_no0 {n : Int} (h : in32 n = false) : keep32 n = 0 := by unfold keep32; rw [if_neg (by rw [h]; exact Bool.noConfusion)]
theorem ret_errno {k : IntKind} {a b : Int} {c d : Int} (h : a = b) (g : c = d) : Ending.returned (.tuple #[.int k a, .int .i64 c]) = .returned (.tuple #[.int k b, .int .i64 d]) := by rw [h, g]
theorem ret_bool {a b : Bool} (h : a = b) : Ending.returned (.bool a) = .returned (.bool b) := by rw [h]

theorem parted_any (n b : Int) (w : World) (h0 : 0 ≤ n) (h1 : n ≤ 4294967295) (b0 : 1 ≤ b) (b1 : b ≤ 4294967295) :
    Calls Try.prog 38 #[.int .u32 n, .int .u32 b] w fun e w' => e = .returned (.tuple #[.int .u32 (n / b), .int .u32 (n % b)]) ∧ Grown w w' := by
  have hz : (b != 0) = true := bne_iff_ne.2 (by omega)
  have hz2 : (b == 0) = false := beq_eq_false_iff_ne.2 (by omega)
  have hd0 : 0 ≤ n / b := Int.ediv_nonneg h0 (by omega)
  have hd1 : n / b ≤ 4294967295 := Int.le_trans (Int.ediv_le_self b h0) h1
  have hm0 : 0 ≤ n % b := Int.emod_nonneg n (by omega)
  have hm1 : n % b ≤ 4294967295 := by have := Int.emod_lt_of_pos n (by omega : 0 < b); omega
  go_enter Try.func38, Try.ntmps38
  go_wp2_with fail
  go_quiet (fail)
  go_wp2
  go_ret2
  exact ⟨rfl, Grown.refl w⟩
theorem sub_any (a : Int) (w : World) (h0 : 0 ≤ a) (h1 : a ≤ 4294967295) :
    Calls Try.prog 31 #[.int .u32 a] w fun e w' => e = .returned (.int .u32 (a / 3)) ∧ Grown w w' := by
  go_enter Try.func31, Try.ntmps31
  go_wp2_with fail
  refine (parted_any a 3 _ h0 h1 (by omega) (by omega)).mono ?_
  rintro e w1 ⟨rfl, g1⟩
  go_wp2
  go_ret
  exact ⟨rfl, g1⟩
theorem ring_any (a : Int) (w : World) (h0 : 0 ≤ a) (h1 : a ≤ 4294967295) :
    Calls Try.prog 37 #[.int .u32 a] w fun e w' => e = .returned (.int .i64 (a % 4)) ∧ Grown w w' := by
  go_enter Try.func37, Try.ntmps37
  go_wp2_with fail
  refine (parted_any a 4 _ h0 h1 (by omega) (by omega)).mono ?_
  rintro e w1 ⟨rfl, g1⟩
  go_wp2
  go_ret
  exact ⟨rfl, g1⟩
/-! The document's answers. -/
theorem rsub_any (a : Int) (w : World) (h0 : 0 ≤ a) (h1 : a ≤ 4294967295) :
    Calls Try.prog 17 #[.int .u32 a] w fun e w' => e = .returned (.int .u32 (a / 3)) ∧ w = w' := by
  go_enter Try.func17, Try.ntmps17
  go_wp2
  go_ret
  exact ⟨rfl, rfl⟩
theorem rlater_any (a b : Int) (w : World) (h0 : 0 ≤ a) (h1 : a ≤ 4294967295) (h2 : 0 ≤ b) (h3 : b ≤ 4294967295) :
    Calls Try.prog 16 #[.int .u32 a, .int .u32 b] w fun e w' => e = .returned (.tuple #[.int .u32 (keep32 (a + b)), .int .i64 (over (in32 (a + b)))]) ∧ w = w' := by
  have C := Lib.hid (Num.radd32_any a b w h0 h1 h2 h3)
  generalize hn : keep32 (a + b) = n at C ⊢
  have hz : in32 (a + b) = false → n = 0 := fun h => by rw [← hn]; exact keep32_no0 h
  clear hn
  generalize in32 (a + b) = x at C hz ⊢
  cases x
  · obtain rfl := hz rfl
    clear hz
    go_enter Try.func16, Try.ntmps16
    go_wp2_with fail
    refine C.out.mono ?_
    rintro e w1 ⟨rfl, rfl⟩
    go_wp2
    go_ret2
    exact ⟨rfl, rfl⟩
  · clear hz
    go_enter Try.func16, Try.ntmps16
    go_wp2_with fail
    refine C.out.mono ?_
    rintro e w1 ⟨rfl, rfl⟩
    go_wp2
    go_ret2
    exact ⟨rfl, rfl⟩
end Go.Proofs.Ytbbmjjphkmjnbaa.Slot
