/-
  The contracts of package num's functions, and of the document's answers for them, over this seat's translation: what each call returns for every argument, and that nothing that was there changes.
-/
import Derived.Test.YtpifmcpecpaiiaaRows
import Derived.Test.YtpifmcpecpaiiaaNumPlain
import Derived.WalkKit
import Derived.ProofKit
import Derived.OpenShut
import Derived.Handy
import Derived.PlainAid
import Derived.Lib.Hide
namespace Go.Proofs.Ytpifmcpecpaiiaa.Num
open Go.ChangeShapes Go.WideShapes Go.ChangeAt Go.RowKit
set_option linter.unusedVariables false

theorem grown_trans {a b c : World} (h : Grown a b) (g : Grown b c) : Grown a c :=
  ⟨World.keptBut_trans h.1 g.1, fun x => (g.2.1 x).trans (h.2.1 x), Nat.le_trans h.2.2 g.2.2⟩
theorem ret_int {k : IntKind} {a b : Int} (h : a = b) : Ending.returned (.int k a) = .returned (.int k b) := by rw [h]

/-! told: the number and true where all of the conditions hold, else 0 and false. -/
theorem told32_yes (n : Int) (B off len cap : Nat) (w : World) (hlen : len ≤ 1000) (hc : ∀ j, j < len → w.cell? ⟨B, off + j, none⟩ = some (.bool true)) :
    Calls Try.prog 29 #[.int .u32 n, .slice (some ⟨B, off, none⟩) len cap] w fun e w' => e = .returned (.tuple #[.int .u32 n, .bool true]) ∧ w = w' := by
  have HC := Lib.hid hc; clear hc
  go_enter Try.func29, Try.ntmps29
  go_wp2
  go_loop [10] (fun i => ∃ k : Nat, k ≤ len ∧ i = .int .i64 k) (fun i => len - (intOf i).toNat)
  case atStart => exact ⟨0, Nat.zero_le _, rfl⟩
  case round =>
    obtain ⟨k, hk, rfl⟩ := hrel
    by_cases hlt : k < len
    · have hcell := HC.out k hlt
      go_wp2
      go_round
      case rel => exact ⟨k + 1, by omega, by go_num⟩
      case measure => simp [intOf]; omega
    · go_wp2
      go_ret2
      exact ⟨rfl, rfl⟩
theorem told32_no (n : Int) (B off len cap m : Nat) (w : World) (hlen : len ≤ 1000) (hm : m < len) (hc : ∀ j, j < m → w.cell? ⟨B, off + j, none⟩ = some (.bool true)) (hf : w.cell? ⟨B, off + m, none⟩ = some (.bool false)) :
    Calls Try.prog 29 #[.int .u32 n, .slice (some ⟨B, off, none⟩) len cap] w fun e w' => e = .returned (.tuple #[.int .u32 0, .bool false]) ∧ w = w' := by
  have HC := Lib.hid hc; clear hc
  have HF := Lib.hid hf; clear hf
  go_enter Try.func29, Try.ntmps29
  go_wp2
  go_loop [10] (fun i => ∃ k : Nat, k ≤ m ∧ i = .int .i64 k) (fun i => len - (intOf i).toNat)
  case atStart => exact ⟨0, Nat.zero_le _, rfl⟩
  case round =>
    obtain ⟨k, hk, rfl⟩ := hrel
    by_cases hlt : k < m
    · have hcell := HC.out k hlt
      go_wp2
      go_round
      case rel => exact ⟨k + 1, by omega, by go_num⟩
      case measure => simp [intOf]; omega
    · obtain rfl : k = m := by omega
      have hcell := HF.out
      go_wp2
      go_ret2
      exact ⟨rfl, rfl⟩


theorem told32_one (n : Int) (x : Bool) (w : World) :
    Calls Try.prog 29 #[.int .u32 n, .slice (some ⟨w.heap.size, 0, none⟩) 1 1] (w.alloc (.cells #[.bool x] 4)) fun e w' => e = .returned (.tuple #[.int .u32 (tell x n), .bool x]) ∧ w.alloc (.cells #[.bool x] 4) = w' := by
  cases x
  · exact (told32_no n w.heap.size 0 1 1 0 _ (by omega) (by omega) (by intro j hj; omega) (by go_simp)).mono (by rintro e w' ⟨rfl, rfl⟩; exact ⟨rfl, rfl⟩)
  · refine (told32_yes n w.heap.size 0 1 1 _ (by omega) ?_).mono (by rintro e w' ⟨rfl, rfl⟩; exact ⟨rfl, rfl⟩)
    intro j hj
    obtain rfl : j = 0 := by omega
    go_simp
theorem told32_two (n : Int) (x y : Bool) (w : World) :
    Calls Try.prog 29 #[.int .u32 n, .slice (some ⟨w.heap.size, 0, none⟩) 2 2] (w.alloc (.cells #[.bool x, .bool y] 4)) fun e w' => e = .returned (.tuple #[.int .u32 (tell (x && y) n), .bool (x && y)]) ∧ w.alloc (.cells #[.bool x, .bool y] 4) = w' := by
  cases x
  · exact (told32_no n w.heap.size 0 2 2 0 _ (by omega) (by omega) (by intro j hj; omega) (by go_simp)).mono (by rintro e w' ⟨rfl, rfl⟩; exact ⟨rfl, rfl⟩)
  · cases y
    · refine (told32_no n w.heap.size 0 2 2 1 _ (by omega) (by omega) ?_ (by go_simp)).mono (by rintro e w' ⟨rfl, rfl⟩; exact ⟨rfl, rfl⟩)
      intro j hj
      obtain rfl : j = 0 := by omega
      go_simp
    · refine (told32_yes n w.heap.size 0 2 2 _ (by omega) ?_).mono (by rintro e w' ⟨rfl, rfl⟩; exact ⟨rfl, rfl⟩)
      intro j hj
      obtain rfl | rfl : j = 0 ∨ j = 1 := by omega
      all_goals go_simp

theorem split_any (c : Int) (w : World) (h2 : 0 ≤ c) (h3 : c ≤ 18446744073709551615) :
    Calls Try.prog 30 #[.int .u64 c] w fun e w' => e = .returned (.tuple #[.int .u32 (c / 4294967296), .int .u32 (c % 4294967296)]) ∧ w = w' := by
  go_enter Try.func30, Try.ntmps30
  go_wp2
  go_ret2
  exact ⟨rfl, rfl⟩
/-! The sums, differences and products. -/
theorem ret_two {k : IntKind} {a b : Int} {x y : Bool} (h : a = b) (g : x = y) : Ending.returned (.tuple #[.int k a, .bool x]) = .returned (.tuple #[.int k b, .bool y]) := by rw [h, g]
theorem add32_plain (a b : Int) (h0 : 0 ≤ a) (h1 : a ≤ 4294967295) (h2 : 0 ≤ b) (h3 : b ≤ 4294967295) : (decide (a ≤ (a + b) % 4294967296) && decide (b ≤ (a + b) % 4294967296)) = in32 (a + b) := by
  by_cases h : a + b ≤ 4294967295
  · rw [in32_yes (by omega) h]; simp; omega
  · rw [in32_no (by omega)]; simp; omega
theorem add64_plain (a b : Int) (h0 : 0 ≤ a) (h1 : a ≤ 18446744073709551615) (h2 : 0 ≤ b) (h3 : b ≤ 18446744073709551615) : (decide (a ≤ IntKind.u64.wrap (a + b)) && decide (b ≤ IntKind.u64.wrap (a + b))) = in64 (a + b) := by
  rw [IntKind.wrap_u64]
  by_cases h : a + b ≤ 18446744073709551615
  · rw [in64_yes (by omega) h]; simp; omega
  · rw [in64_no (by omega)]; simp; omega
theorem kept32 {n m : Int} {x : Bool} (hx : x = in32 n) (hm : in32 n = true → m = n) : tell x m = keep32 n := by
  subst hx; unfold keep32 tell; by_cases h : in32 n = true
  · rw [if_pos h, if_pos h, hm h]
  · rw [if_neg h, if_neg h]
theorem kept64 {n m : Int} {x : Bool} (hx : x = in64 n) (hm : in64 n = true → m = n) : tell x m = keep64 n := by
  subst hx; unfold keep64 tell; by_cases h : in64 n = true
  · rw [if_pos h, if_pos h, hm h]
  · rw [if_neg h, if_neg h]
theorem is32 {n : Int} (h : in32 n = true) : 0 ≤ n ∧ n ≤ 4294967295 := of_decide_eq_true h
theorem is64 {n : Int} (h : in64 n = true) : 0 ≤ n ∧ n ≤ 18446744073709551615 := of_decide_eq_true h
theorem sub32_plain (a b : Int) (h1 : a ≤ 4294967295) (h2 : 0 ≤ b) : decide (b ≤ a) = in32 (a - b) := by
  by_cases h : b ≤ a
  · rw [in32_yes (by omega) (by omega)]; simp [h]
  · rw [in32_no (by omega)]; simp [h]
theorem narrow_plain (n : Int) (h0 : 0 ≤ n) : (n / 4294967296 == 0) = in32 n := by
  by_cases h : n ≤ 4294967295
  · rw [in32_yes h0 h]; exact beq_iff_eq.2 (by omega)
  · rw [in32_no (by omega)]; exact beq_eq_false_iff_ne.2 (by omega)
theorem add32_any (a b : Int) (w : World) (h0 : 0 ≤ a) (h1 : a ≤ 4294967295) (h2 : 0 ≤ b) (h3 : b ≤ 4294967295) :
    Calls Try.prog 25 #[.int .u32 a, .int .u32 b] w fun e w' => e = .returned (.tuple #[.int .u32 (keep32 (a + b)), .bool (in32 (a + b))]) ∧ Grown w w' := by
  go_enter Try.func25, Try.ntmps25
  go_wp2_with fail
  refine (told32_two _ _ _ _).mono ?_
  rintro e w' ⟨rfl, rfl⟩
  go_wp2
  go_ret2
  have hp := add32_plain a b h0 h1 h2 h3
  exact ⟨ret_two (kept32 hp fun h => by have := is32 h; omega) hp, by go_grown⟩
theorem narrow_any (n : Int) (w : World) (h0 : 0 ≤ n) (h1 : n ≤ 18446744073709551615) :
    Calls Try.prog 28 #[.int .u64 n] w fun e w' => e = .returned (.tuple #[.int .u32 (keep32 n), .bool (in32 n)]) ∧ Grown w w' := by
  go_enter Try.func28, Try.ntmps28
  go_wp2_with fail
  refine (split_any _ _ h0 h1).mono ?_
  rintro e w' ⟨rfl, rfl⟩
  go_wp2_with fail
  refine (told32_one _ _ _).mono ?_
  rintro e w' ⟨rfl, rfl⟩
  go_wp2
  go_ret2
  have hp := narrow_plain n h0
  exact ⟨ret_two (kept32 hp fun h => by have := is32 h; omega) hp, by go_grown⟩
theorem mul_bd (a b : Int) (h0 : 0 ≤ a) (h1 : a ≤ 4294967295) (h2 : 0 ≤ b) (h3 : b ≤ 4294967295) : 0 ≤ a * b ∧ a * b ≤ 18446744073709551615 := by
  have := Int.mul_nonneg h0 h2
  have := Int.mul_le_mul h1 h3 h2 (by omega : (0 : Int) ≤ 4294967295)
  omega
theorem mul32_any (a b : Int) (w : World) (h0 : 0 ≤ a) (h1 : a ≤ 4294967295) (h2 : 0 ≤ b) (h3 : b ≤ 4294967295) :
    Calls Try.prog 23 #[.int .u32 a, .int .u32 b] w fun e w' => e = .returned (.tuple #[.int .u32 (keep32 (a * b)), .bool (in32 (a * b))]) ∧ Grown w w' := by
  have hm := mul_bd a b h0 h1 h2 h3
  obtain ⟨hm0, hm1⟩ := hm
  go_enter Try.func23, Try.ntmps23
  go_wp2_with fail
  refine (narrow_any _ _ hm0 hm1).mono ?_
  rintro e w' ⟨rfl, hg⟩
  go_wp2
  go_ret2
  exact ⟨rfl, hg⟩
/-! The document's answers. -/
theorem radd32_any (a b : Int) (w : World) (h0 : 0 ≤ a) (h1 : a ≤ 4294967295) (h2 : 0 ≤ b) (h3 : b ≤ 4294967295) :
    Calls Try.prog 26 #[.int .u32 a, .int .u32 b] w fun e w' => e = .returned (.tuple #[.int .u32 (keep32 (a + b)), .bool (in32 (a + b))]) ∧ w = w' := by
  by_cases h : 4294967295 - b < a
  · rw [keep32_no (by omega), in32_no (by omega)]
    go_enter Try.func26, Try.ntmps26
    go_wp2
    go_ret2
    exact ⟨rfl, rfl⟩
  · rw [keep32_yes (by omega) (by omega), in32_yes (by omega) (by omega)]
    go_enter Try.func26, Try.ntmps26
    go_wp2
    go_ret2
    exact ⟨rfl, rfl⟩
theorem rmul32_any (a b : Int) (w : World) (h0 : 0 ≤ a) (h1 : a ≤ 4294967295) (h2 : 0 ≤ b) (h3 : b ≤ 4294967295) :
    Calls Try.prog 24 #[.int .u32 a, .int .u32 b] w fun e w' => e = .returned (.tuple #[.int .u32 (keep32 (a * b)), .bool (in32 (a * b))]) ∧ w = w' := by
  by_cases hb : b = 0
  · subst hb
    rw [show a * 0 = 0 from by omega, keep32_yes (by omega) (by omega), in32_yes (by omega) (by omega)]
    go_enter Try.func24, Try.ntmps24
    go_wp2
    go_ret2
    exact ⟨rfl, rfl⟩
  · have hb1 : 1 ≤ b := by omega
    have hbn : (b != 0) = true := bne_iff_ne.2 hb
    obtain ⟨hm0, hm1⟩ := mul_bd a b h0 h1 h2 h3
    have hq := @mul_quo a b hb1
    by_cases h : 4294967295 / b < a
    · rw [keep32_no (Or.inr (hq.1 h)), in32_no (Or.inr (hq.1 h))]
      clear hq
      go_enter Try.func24, Try.ntmps24
      go_wp2
      go_ret2
      exact ⟨rfl, rfl⟩
    · have hle : a * b ≤ 4294967295 := by
        by_cases g : a * b ≤ 4294967295
        · exact g
        · exact absurd (hq.2 (by omega)) h
      rw [keep32_yes hm0 hle, in32_yes hm0 hle]
      clear hq
      have hd : decide (4294967295 / b < a) = false := decide_eq_false h
      go_enter Try.func24, Try.ntmps24
      go_wp2
      go_ret2
      exact ⟨rfl, rfl⟩
/-! awake: the calls whose answers the document fixes: it returns true. -/
end Go.Proofs.Ytpifmcpecpaiiaa.Num
