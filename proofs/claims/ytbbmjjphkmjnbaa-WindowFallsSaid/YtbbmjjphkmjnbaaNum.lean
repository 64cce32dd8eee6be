/-
  The contracts of package num's functions, and of the document's answers for them, over this seat's translation: what each call returns for every argument, and that nothing that was there changes.
-/
import Derived.Test.YtbbmjjphkmjnbaaRows
import Derived.Test.YtbbmjjphkmjnbaaNumPlain
import Derived.WalkKit
import Derived.ProofKit
import Derived.OpenShut
import Derived.Handy
import Derived.PlainAid
import Derived.Lib.Hide
namespace Go.Proofs.Ytbbmjjphkmjnbaa.Num
open Go.ChangeShapes Go.WideShapes Go.ChangeAt Go.RowKit
set_option linter.unusedVariables false

theorem grown_trans {a b c : World} (h : Grown a b) (g : Grown b c) : Grown a c :=
  ⟨World.keptBut_trans h.1 g.1, fun x => (g.2.1 x).trans (h.2.1 x), Nat.le_trans h.2.2 g.2.2⟩
theorem ret_int {k : IntKind} {a b : Int} (h : a = b) : Ending.returned (.int k a) = .returned (.int k b) := by rw [h]

/-! told: the number and true where all of the conditions hold, else 0 and false. -/
/-! The sums, differences and products. -/
theorem ret_two {k : IntKind} {a b : Int} {x y : Bool} (h : a = b) (g : x = y) : Ending.returned (.tuple #[.int k a, .bool x]) = .returned (.tuple #[.int k b, .bool y]) := by rw [h, g]
theorem add32_plain (a b : Int) (h0 : 0 ≤ a) (h1 : a ≤ 4294967295) (h2 : 0 ≤ b) (h3 : b ≤ 4294967295) : (decide (a ≤ (a + b) % 4294967296) && decide (b ≤ (a + b) % 4294967296)) = in32 (a + b) := by
  by_cases h : a + b ≤ 4294967295
  · rw [in32_yes (by omega) h]; simp; omega
  · rw [in32_no (by omega)]; simp; omega
theorem add64_plain (a b : Int) (h0 : 0 ≤ a) (h1 : a ≤ 18446744073709551615) (h2 : 0 ≤ b) (h3 : b ≤ 18446744073709551615) : (decide (a ≤ IntKind.u64.wrap (a + b)) && decide (b ≤ IntKind.u64.wrap (a + b))) = in64 (a + b) := by
  rw [IntKind.wrap_u64]
  by_cases h : a + b ≤ 18446744073709551615
  · rw [in64_yes (by omega) h]; simp; omega
  · rw [in64_no (by omega)]; simp; omega
theorem kept32 {n m : Int} {x : Bool} (hx : x = in32 n) (hm : in32 n = true → m = n) : tell x m = keep32 n := by
  subst hx; unfold keep32 tell; by_cases h : in32 n = true
  · rw [if_pos h, if_pos h, hm h]
  · rw [if_neg h, if_neg h]
theorem kept64 {n m : Int} {x : Bool} (hx : x = in64 n) (hm : in64 n = true → m = n) : tell x m = keep64 n := by
  subst hx; unfold keep64 tell; by_cases h : in64 n = true
  · rw [if_pos h, if_pos h, hm h]
  · rw [if_neg h, if_neg h]
theorem is32 {n : Int} (h : in32 n = true) : 0 ≤ n ∧ n ≤ 4294967295 := of_decide_eq_true h
theorem is64 {n : Int} (h : in64 n = true) : 0 ≤ n ∧ n ≤ 18446744073709551615 := of_decide_eq_true h
theorem sub32_plain (a b : Int) (h1 : a ≤ 4294967295) (h2 : 0 ≤ b) : decide (b ≤ a) = in32 (a - b) := by
  by_cases h : b ≤ a
  · rw [in32_yes (by omega) (by omega)]; simp [h]
  · rw [in32_no (by omega)]; simp [h]
theorem narrow_plain (n : Int) (h0 : 0 ≤ n) : (n / 4294967296 == 0) = in32 n := by
  by_cases h : n ≤ 4294967295
  · rw [in32_yes h0 h]; exact beq_iff_eq.2 (by omega)
  · rw [in32_no (by omega)]; exact beq_eq_false_iff_ne.2 (by omega)
theorem mul_bd (a b : Int) (h0 : 0 ≤ a) (h1 : a ≤ 4294967295) (h2 : 0 ≤ b) (h3 : b ≤ 4294967295) : 0 ≤ a * b ∧ a * b ≤ 18446744073709551615 := by
  have := Int.mul_nonneg h0 h2
  have := Int.mul_le_mul h1 h3 h2 (by omega : (0 : Int) ≤ 4294967295)
  omega
/-! The document's answers. -/
theorem radd32_any (a b : Int) (w : World) (h0 : 0 ≤ a) (h1 : a ≤ 4294967295) (h2 : 0 ≤ b) (h3 : b ≤ 4294967295) :
    Calls Try.prog 28 #[.int .u32 a, .int .u32 b] w fun e w' => e = .returned (.tuple #[.int .u32 (keep32 (a + b)), .bool (in32 (a + b))]) ∧ w = w' := by
  by_cases h : 4294967295 - b < a
  · rw [keep32_no (by omega), in32_no (by omega)]
    go_enter Try.func28, Try.ntmps28
    go_wp2
    go_ret2
    exact ⟨rfl, rfl⟩
  · rw [keep32_yes (by omega) (by omega), in32_yes (by omega) (by omega)]
    go_enter Try.func28, Try.ntmps28
    go_wp2
    go_ret2
    exact ⟨rfl, rfl⟩
/-! awake: the calls whose answers the document fixes: it returns true. -/
end Go.Proofs.Ytbbmjjphkmjnbaa.Num
