/-
  The contracts of package num's functions, and of the document's answers for them, over this seat's translation: what each call returns for every argument, and that nothing that was there changes.
-/
import Derived.Test.YtjjmedmlhjeddaaRows
import Derived.Test.YtjjmedmlhjeddaaNumPlain
import Derived.WalkKit
import Derived.ProofKit
import Derived.OpenShut
import Derived.Handy
import Derived.PlainAid
import Derived.Lib.Hide
namespace Go.Proofs.Ytjjmedmlhjeddaa.Num
open Go.ChangeShapes Go.WideShapes Go.ChangeAt Go.RowKit
set_option linter.unusedVariables false

theorem grown_trans {a b c : World} (h : Grown a b) (g : Grown b c) : Grown a c :=
  ⟨World.keptBut_trans h.1 g.1, fun x => (g.2.1 x).trans (h.2.1 x), Nat.le_trans h.2.2 g.2.2⟩
theorem ret_int {k : IntKind} {a b : Int} (h : a = b) : Ending.returned (.int k a) = .returned (.int k b) := by rw [h]

/-! told: the number and true where all of the conditions hold, else 0 and false. -/
theorem told32_yes (n : Int) (B off len cap : Nat) (w : World) (hlen : len ≤ 1000) (hc : ∀ j, j < len → w.cell? ⟨B, off + j, none⟩ = some (.bool true)) :
    Calls Try.prog 24 #[.int .u32 n, .slice (some ⟨B, off, none⟩) len cap] w fun e w' => e = .returned (.tuple #[.int .u32 n, .bool true]) ∧ w = w' := by
  have HC := Lib.hid hc; clear hc
  go_enter Try.func24, Try.ntmps24
  go_wp2
  go_loop [10] (fun i => ∃ k : Nat, k ≤ len ∧ i = .int .i64 k) (fun i => len - (intOf i).toNat)
  case atStart => exact ⟨0, Nat.zero_le _, rfl⟩
  case round =>
    obtain ⟨k, hk, rfl⟩ := hrel
    by_cases hlt : k < len
    · have hcell := HC.out k hlt
      go_wp2
      go_round
      case rel => exact ⟨k + 1, by omega, by go_num⟩
      case measure => simp [intOf]; omega
    · go_wp2
      go_ret2
      exact ⟨rfl, rfl⟩
theorem told32_no (n : Int) (B off len cap m : Nat) (w : World) (hlen : len ≤ 1000) (hm : m < len) (hc : ∀ j, j < m → w.cell? ⟨B, off + j, none⟩ = some (.bool true)) (hf : w.cell? ⟨B, off + m, none⟩ = some (.bool false)) :
    Calls Try.prog 24 #[.int .u32 n, .slice (some ⟨B, off, none⟩) len cap] w fun e w' => e = .returned (.tuple #[.int .u32 0, .bool false]) ∧ w = w' := by
  have HC := Lib.hid hc; clear hc
  have HF := Lib.hid hf; clear hf
  go_enter Try.func24, Try.ntmps24
  go_wp2
  go_loop [10] (fun i => ∃ k : Nat, k ≤ m ∧ i = .int .i64 k) (fun i => len - (intOf i).toNat)
  case atStart => exact ⟨0, Nat.zero_le _, rfl⟩
  case round =>
    obtain ⟨k, hk, rfl⟩ := hrel
    by_cases hlt : k < m
    · have hcell := HC.out k hlt
      go_wp2
      go_round
      case rel => exact ⟨k + 1, by omega, by go_num⟩
      case measure => simp [intOf]; omega
    · obtain rfl : k = m := by omega
      have hcell := HF.out
      go_wp2
      go_ret2
      exact ⟨rfl, rfl⟩


theorem told64_yes (n : Int) (B off len cap : Nat) (w : World) (hlen : len ≤ 1000) (hc : ∀ j, j < len → w.cell? ⟨B, off + j, none⟩ = some (.bool true)) :
    Calls Try.prog 25 #[.int .u64 n, .slice (some ⟨B, off, none⟩) len cap] w fun e w' => e = .returned (.tuple #[.int .u64 n, .bool true]) ∧ w = w' := by
  have HC := Lib.hid hc; clear hc
  go_enter Try.func25, Try.ntmps25
  go_wp2
  go_loop [10] (fun i => ∃ k : Nat, k ≤ len ∧ i = .int .i64 k) (fun i => len - (intOf i).toNat)
  case atStart => exact ⟨0, Nat.zero_le _, rfl⟩
  case round =>
    obtain ⟨k, hk, rfl⟩ := hrel
    by_cases hlt : k < len
    · have hcell := HC.out k hlt
      go_wp2
      go_round
      case rel => exact ⟨k + 1, by omega, by go_num⟩
      case measure => simp [intOf]; omega
    · go_wp2
      go_ret2
      exact ⟨rfl, rfl⟩
theorem told64_no (n : Int) (B off len cap m : Nat) (w : World) (hlen : len ≤ 1000) (hm : m < len) (hc : ∀ j, j < m → w.cell? ⟨B, off + j, none⟩ = some (.bool true)) (hf : w.cell? ⟨B, off + m, none⟩ = some (.bool false)) :
    Calls Try.prog 25 #[.int .u64 n, .slice (some ⟨B, off, none⟩) len cap] w fun e w' => e = .returned (.tuple #[.int .u64 0, .bool false]) ∧ w = w' := by
  have HC := Lib.hid hc; clear hc
  have HF := Lib.hid hf; clear hf
  go_enter Try.func25, Try.ntmps25
  go_wp2
  go_loop [10] (fun i => ∃ k : Nat, k ≤ m ∧ i = .int .i64 k) (fun i => len - (intOf i).toNat)
  case atStart => exact ⟨0, Nat.zero_le _, rfl⟩
  case round =>
    obtain ⟨k, hk, rfl⟩ := hrel
    by_cases hlt : k < m
    · have hcell := HC.out k hlt
      go_wp2
      go_round
      case rel => exact ⟨k + 1, by omega, by go_num⟩
      case measure => simp [intOf]; omega
    · obtain rfl : k = m := by omega
      have hcell := HF.out
      go_wp2
      go_ret2
      exact ⟨rfl, rfl⟩


theorem told32_one (n : Int) (x : Bool) (w : World) :
    Calls Try.prog 24 #[.int .u32 n, .slice (some ⟨w.heap.size, 0, none⟩) 1 1] (w.alloc (.cells #[.bool x] 4)) fun e w' => e = .returned (.tuple #[.int .u32 (tell x n), .bool x]) ∧ w.alloc (.cells #[.bool x] 4) = w' := by
  cases x
  · exact (told32_no n w.heap.size 0 1 1 0 _ (by omega) (by omega) (by intro j hj; omega) (by go_simp)).mono (by rintro e w' ⟨rfl, rfl⟩; exact ⟨rfl, rfl⟩)
  · refine (told32_yes n w.heap.size 0 1 1 _ (by omega) ?_).mono (by rintro e w' ⟨rfl, rfl⟩; exact ⟨rfl, rfl⟩)
    intro j hj
    obtain rfl : j = 0 := by omega
    go_simp
theorem told32_two (n : Int) (x y : Bool) (w : World) :
    Calls Try.prog 24 #[.int .u32 n, .slice (some ⟨w.heap.size, 0, none⟩) 2 2] (w.alloc (.cells #[.bool x, .bool y] 4)) fun e w' => e = .returned (.tuple #[.int .u32 (tell (x && y) n), .bool (x && y)]) ∧ w.alloc (.cells #[.bool x, .bool y] 4) = w' := by
  cases x
  · exact (told32_no n w.heap.size 0 2 2 0 _ (by omega) (by omega) (by intro j hj; omega) (by go_simp)).mono (by rintro e w' ⟨rfl, rfl⟩; exact ⟨rfl, rfl⟩)
  · cases y
    · refine (told32_no n w.heap.size 0 2 2 1 _ (by omega) (by omega) ?_ (by go_simp)).mono (by rintro e w' ⟨rfl, rfl⟩; exact ⟨rfl, rfl⟩)
      intro j hj
      obtain rfl : j = 0 := by omega
      go_simp
    · refine (told32_yes n w.heap.size 0 2 2 _ (by omega) ?_).mono (by rintro e w' ⟨rfl, rfl⟩; exact ⟨rfl, rfl⟩)
      intro j hj
      obtain rfl | rfl : j = 0 ∨ j = 1 := by omega
      all_goals go_simp

theorem told64_one (n : Int) (x : Bool) (w : World) :
    Calls Try.prog 25 #[.int .u64 n, .slice (some ⟨w.heap.size, 0, none⟩) 1 1] (w.alloc (.cells #[.bool x] 4)) fun e w' => e = .returned (.tuple #[.int .u64 (tell x n), .bool x]) ∧ w.alloc (.cells #[.bool x] 4) = w' := by
  cases x
  · exact (told64_no n w.heap.size 0 1 1 0 _ (by omega) (by omega) (by intro j hj; omega) (by go_simp)).mono (by rintro e w' ⟨rfl, rfl⟩; exact ⟨rfl, rfl⟩)
  · refine (told64_yes n w.heap.size 0 1 1 _ (by omega) ?_).mono (by rintro e w' ⟨rfl, rfl⟩; exact ⟨rfl, rfl⟩)
    intro j hj
    obtain rfl : j = 0 := by omega
    go_simp
theorem told64_two (n : Int) (x y : Bool) (w : World) :
    Calls Try.prog 25 #[.int .u64 n, .slice (some ⟨w.heap.size, 0, none⟩) 2 2] (w.alloc (.cells #[.bool x, .bool y] 4)) fun e w' => e = .returned (.tuple #[.int .u64 (tell (x && y) n), .bool (x && y)]) ∧ w.alloc (.cells #[.bool x, .bool y] 4) = w' := by
  cases x
  · exact (told64_no n w.heap.size 0 2 2 0 _ (by omega) (by omega) (by intro j hj; omega) (by go_simp)).mono (by rintro e w' ⟨rfl, rfl⟩; exact ⟨rfl, rfl⟩)
  · cases y
    · refine (told64_no n w.heap.size 0 2 2 1 _ (by omega) (by omega) ?_ (by go_simp)).mono (by rintro e w' ⟨rfl, rfl⟩; exact ⟨rfl, rfl⟩)
      intro j hj
      obtain rfl : j = 0 := by omega
      go_simp
    · refine (told64_yes n w.heap.size 0 2 2 _ (by omega) ?_).mono (by rintro e w' ⟨rfl, rfl⟩; exact ⟨rfl, rfl⟩)
      intro j hj
      obtain rfl | rfl : j = 0 ∨ j = 1 := by omega
      all_goals go_simp
theorem turn_any (a c : Int) (w : World) (h0 : 0 ≤ a) (h1 : a ≤ 4294967295) (h2 : -9223372036854775808 ≤ c) (h3 : c ≤ 9223372036854775807) :
    Calls Try.prog 17 #[.int .u32 a, .int .i64 c] w fun e w' => e = .returned (.int .u32 (rotN (c % 32).toNat a)) ∧ w = w' := by
  obtain ⟨k, hk⟩ : ∃ k : Nat, (k : Int) = c % 32 := ⟨(c % 32).toNat, by omega⟩
  have hk31 : k ≤ 31 := by omega
  have hr : bits BinOp.and IntKind.u32 (c % 4294967296) 31 = (k : Int) := by rw [low5, hk]
  have HK := Lib.hid hk; clear hk
  go_enter Try.func17, Try.ntmps17
  go_wp2
  go_ret
  refine ⟨ret_int ?_, rfl⟩
  rw [← HK.out, Int.toNat_natCast]
  rw [← turn_plain a k hk31 h0 h1]
theorem join_any (a c : Int) (w : World) (h0 : 0 ≤ a) (h1 : a ≤ 4294967295) (h2 : 0 ≤ c) (h3 : c ≤ 4294967295) :
    Calls Try.prog 21 #[.int .u32 a, .int .u32 c] w fun e w' => e = .returned (.int .u64 (a * 4294967296 + c)) ∧ w = w' := by
  go_enter Try.func21, Try.ntmps21
  go_wp2
  go_ret
  exact ⟨ret_int (join_plain a c h0 h1 h2 h3), rfl⟩
theorem split_any (c : Int) (w : World) (h2 : 0 ≤ c) (h3 : c ≤ 18446744073709551615) :
    Calls Try.prog 22 #[.int .u64 c] w fun e w' => e = .returned (.tuple #[.int .u32 (c / 4294967296), .int .u32 (c % 4294967296)]) ∧ w = w' := by
  go_enter Try.func22, Try.ntmps22
  go_wp2
  go_ret2
  exact ⟨rfl, rfl⟩
theorem signed_any (c : Int) (w : World) (h2 : 0 ≤ c) (h3 : c ≤ 4294967295) :
    Calls Try.prog 19 #[.int .u32 c] w fun e w' => e = .returned (.int .i32 (wrap32 c)) ∧ w = w' := by
  go_enter Try.func19, Try.ntmps19
  go_wp2
  go_ret
  exact ⟨rfl, rfl⟩
theorem unsigned_any (c : Int) (w : World) (h2 : -2147483648 ≤ c) (h3 : c ≤ 2147483647) :
    Calls Try.prog 23 #[.int .i32 c] w fun e w' => e = .returned (.int .u32 (c % 4294967296)) ∧ w = w' := by
  go_enter Try.func23, Try.ntmps23
  go_wp2
  go_ret
  exact ⟨rfl, rfl⟩
/-! The sums, differences and products. -/
theorem ret_two {k : IntKind} {a b : Int} {x y : Bool} (h : a = b) (g : x = y) : Ending.returned (.tuple #[.int k a, .bool x]) = .returned (.tuple #[.int k b, .bool y]) := by rw [h, g]
theorem add32_plain (a b : Int) (h0 : 0 ≤ a) (h1 : a ≤ 4294967295) (h2 : 0 ≤ b) (h3 : b ≤ 4294967295) : (decide (a ≤ (a + b) % 4294967296) && decide (b ≤ (a + b) % 4294967296)) = in32 (a + b) := by
  by_cases h : a + b ≤ 4294967295
  · rw [in32_yes (by omega) h]; simp; omega
  · rw [in32_no (by omega)]; simp; omega
theorem add64_plain (a b : Int) (h0 : 0 ≤ a) (h1 : a ≤ 18446744073709551615) (h2 : 0 ≤ b) (h3 : b ≤ 18446744073709551615) : (decide (a ≤ IntKind.u64.wrap (a + b)) && decide (b ≤ IntKind.u64.wrap (a + b))) = in64 (a + b) := by
  rw [IntKind.wrap_u64]
  by_cases h : a + b ≤ 18446744073709551615
  · rw [in64_yes (by omega) h]; simp; omega
  · rw [in64_no (by omega)]; simp; omega
theorem kept32 {n m : Int} {x : Bool} (hx : x = in32 n) (hm : in32 n = true → m = n) : tell x m = keep32 n := by
  subst hx; unfold keep32 tell; by_cases h : in32 n = true
  · rw [if_pos h, if_pos h, hm h]
  · rw [if_neg h, if_neg h]
theorem kept64 {n m : Int} {x : Bool} (hx : x = in64 n) (hm : in64 n = true → m = n) : tell x m = keep64 n := by
  subst hx; unfold keep64 tell; by_cases h : in64 n = true
  · rw [if_pos h, if_pos h, hm h]
  · rw [if_neg h, if_neg h]
theorem is32 {n : Int} (h : in32 n = true) : 0 ≤ n ∧ n ≤ 4294967295 := of_decide_eq_true h
theorem is64 {n : Int} (h : in64 n = true) : 0 ≤ n ∧ n ≤ 18446744073709551615 := of_decide_eq_true h
theorem sub32_plain (a b : Int) (h1 : a ≤ 4294967295) (h2 : 0 ≤ b) : decide (b ≤ a) = in32 (a - b) := by
  by_cases h : b ≤ a
  · rw [in32_yes (by omega) (by omega)]; simp [h]
  · rw [in32_no (by omega)]; simp [h]
theorem narrow_plain (n : Int) (h0 : 0 ≤ n) : (n / 4294967296 == 0) = in32 n := by
  by_cases h : n ≤ 4294967295
  · rw [in32_yes h0 h]; exact beq_iff_eq.2 (by omega)
  · rw [in32_no (by omega)]; exact beq_eq_false_iff_ne.2 (by omega)
theorem add32_any (a b : Int) (w : World) (h0 : 0 ≤ a) (h1 : a ≤ 4294967295) (h2 : 0 ≤ b) (h3 : b ≤ 4294967295) :
    Calls Try.prog 7 #[.int .u32 a, .int .u32 b] w fun e w' => e = .returned (.tuple #[.int .u32 (keep32 (a + b)), .bool (in32 (a + b))]) ∧ Grown w w' := by
  go_enter Try.func7, Try.ntmps7
  go_wp2_with fail
  refine (told32_two _ _ _ _).mono ?_
  rintro e w' ⟨rfl, rfl⟩
  go_wp2
  go_ret2
  have hp := add32_plain a b h0 h1 h2 h3
  exact ⟨ret_two (kept32 hp fun h => by have := is32 h; omega) hp, by go_grown⟩
theorem sub32_any (a b : Int) (w : World) (h0 : 0 ≤ a) (h1 : a ≤ 4294967295) (h2 : 0 ≤ b) (h3 : b ≤ 4294967295) :
    Calls Try.prog 9 #[.int .u32 a, .int .u32 b] w fun e w' => e = .returned (.tuple #[.int .u32 (keep32 (a - b)), .bool (in32 (a - b))]) ∧ Grown w w' := by
  go_enter Try.func9, Try.ntmps9
  go_wp2_with fail
  refine (told32_one _ _ _).mono ?_
  rintro e w' ⟨rfl, rfl⟩
  go_wp2
  go_ret2
  have hp := sub32_plain a b h1 h2
  exact ⟨ret_two (kept32 hp fun h => by have := is32 h; omega) hp, by go_grown⟩
theorem add64_any (a b : Int) (w : World) (h0 : 0 ≤ a) (h1 : a ≤ 18446744073709551615) (h2 : 0 ≤ b) (h3 : b ≤ 18446744073709551615) :
    Calls Try.prog 13 #[.int .u64 a, .int .u64 b] w fun e w' => e = .returned (.tuple #[.int .u64 (keep64 (a + b)), .bool (in64 (a + b))]) ∧ Grown w w' := by
  go_enter Try.func13, Try.ntmps13
  go_wp2_with fail
  refine (told64_two _ _ _ _).mono ?_
  rintro e w' ⟨rfl, rfl⟩
  go_wp2
  go_ret2
  have hp := add64_plain a b h0 h1 h2 h3
  exact ⟨ret_two (kept64 hp fun h => by have := is64 h; rw [IntKind.wrap_u64]; omega) hp, by go_grown⟩
theorem narrow_any (n : Int) (w : World) (h0 : 0 ≤ n) (h1 : n ≤ 18446744073709551615) :
    Calls Try.prog 15 #[.int .u64 n] w fun e w' => e = .returned (.tuple #[.int .u32 (keep32 n), .bool (in32 n)]) ∧ Grown w w' := by
  go_enter Try.func15, Try.ntmps15
  go_wp2_with fail
  refine (split_any _ _ h0 h1).mono ?_
  rintro e w' ⟨rfl, rfl⟩
  go_wp2_with fail
  refine (told32_one _ _ _).mono ?_
  rintro e w' ⟨rfl, rfl⟩
  go_wp2
  go_ret2
  have hp := narrow_plain n h0
  exact ⟨ret_two (kept32 hp fun h => by have := is32 h; omega) hp, by go_grown⟩
theorem mul_bd (a b : Int) (h0 : 0 ≤ a) (h1 : a ≤ 4294967295) (h2 : 0 ≤ b) (h3 : b ≤ 4294967295) : 0 ≤ a * b ∧ a * b ≤ 18446744073709551615 := by
  have := Int.mul_nonneg h0 h2
  have := Int.mul_le_mul h1 h3 h2 (by omega : (0 : Int) ≤ 4294967295)
  omega
theorem mul32_any (a b : Int) (w : World) (h0 : 0 ≤ a) (h1 : a ≤ 4294967295) (h2 : 0 ≤ b) (h3 : b ≤ 4294967295) :
    Calls Try.prog 11 #[.int .u32 a, .int .u32 b] w fun e w' => e = .returned (.tuple #[.int .u32 (keep32 (a * b)), .bool (in32 (a * b))]) ∧ Grown w w' := by
  have hm := mul_bd a b h0 h1 h2 h3
  obtain ⟨hm0, hm1⟩ := hm
  go_enter Try.func11, Try.ntmps11
  go_wp2_with fail
  refine (narrow_any _ _ hm0 hm1).mono ?_
  rintro e w' ⟨rfl, hg⟩
  go_wp2
  go_ret2
  exact ⟨rfl, hg⟩
/-! The document's answers. -/
theorem radd32_any (a b : Int) (w : World) (h0 : 0 ≤ a) (h1 : a ≤ 4294967295) (h2 : 0 ≤ b) (h3 : b ≤ 4294967295) :
    Calls Try.prog 8 #[.int .u32 a, .int .u32 b] w fun e w' => e = .returned (.tuple #[.int .u32 (keep32 (a + b)), .bool (in32 (a + b))]) ∧ w = w' := by
  by_cases h : 4294967295 - b < a
  · rw [keep32_no (by omega), in32_no (by omega)]
    go_enter Try.func8, Try.ntmps8
    go_wp2
    go_ret2
    exact ⟨rfl, rfl⟩
  · rw [keep32_yes (by omega) (by omega), in32_yes (by omega) (by omega)]
    go_enter Try.func8, Try.ntmps8
    go_wp2
    go_ret2
    exact ⟨rfl, rfl⟩
theorem rsub32_any (a b : Int) (w : World) (h0 : 0 ≤ a) (h1 : a ≤ 4294967295) (h2 : 0 ≤ b) (h3 : b ≤ 4294967295) :
    Calls Try.prog 10 #[.int .u32 a, .int .u32 b] w fun e w' => e = .returned (.tuple #[.int .u32 (keep32 (a - b)), .bool (in32 (a - b))]) ∧ w = w' := by
  by_cases h : a < b
  · rw [keep32_no (by omega), in32_no (by omega)]
    go_enter Try.func10, Try.ntmps10
    go_wp2
    go_ret2
    exact ⟨rfl, rfl⟩
  · rw [keep32_yes (by omega) (by omega), in32_yes (by omega) (by omega)]
    go_enter Try.func10, Try.ntmps10
    go_wp2
    go_ret2
    exact ⟨rfl, rfl⟩
theorem radd64_any (a b : Int) (w : World) (h0 : 0 ≤ a) (h1 : a ≤ 18446744073709551615) (h2 : 0 ≤ b) (h3 : b ≤ 18446744073709551615) :
    Calls Try.prog 14 #[.int .u64 a, .int .u64 b] w fun e w' => e = .returned (.tuple #[.int .u64 (keep64 (a + b)), .bool (in64 (a + b))]) ∧ w = w' := by
  by_cases h : 18446744073709551615 - b < a
  · rw [keep64_no (by omega), in64_no (by omega)]
    go_enter Try.func14, Try.ntmps14
    go_wp2
    go_ret2
    exact ⟨rfl, rfl⟩
  · rw [keep64_yes (by omega) (by omega), in64_yes (by omega) (by omega)]
    go_enter Try.func14, Try.ntmps14
    go_wp2
    go_ret2
    exact ⟨rfl, rfl⟩
theorem rnarrow_any (n : Int) (w : World) (h0 : 0 ≤ n) (h1 : n ≤ 18446744073709551615) :
    Calls Try.prog 16 #[.int .u64 n] w fun e w' => e = .returned (.tuple #[.int .u32 (keep32 n), .bool (in32 n)]) ∧ w = w' := by
  by_cases h : 4294967295 < n
  · rw [keep32_no (by omega), in32_no (by omega)]
    go_enter Try.func16, Try.ntmps16
    go_wp2
    go_ret2
    exact ⟨rfl, rfl⟩
  · rw [keep32_yes (by omega) (by omega), in32_yes (by omega) (by omega)]
    go_enter Try.func16, Try.ntmps16
    go_wp2
    go_ret2
    exact ⟨rfl, rfl⟩
theorem rsigned_any (c : Int) (w : World) (h2 : 0 ≤ c) (h3 : c ≤ 4294967295) :
    Calls Try.prog 20 #[.int .u32 c] w fun e w' => e = .returned (.int .i32 (wrap32 c)) ∧ w = w' := by
  by_cases h : c < 2147483648
  · go_enter Try.func20, Try.ntmps20
    go_wp2
    go_ret
    exact ⟨ret_int (by unfold wrap32; omega), rfl⟩
  · go_enter Try.func20, Try.ntmps20
    go_wp2
    go_ret
    exact ⟨ret_int (by unfold wrap32; omega), rfl⟩
theorem rmul32_any (a b : Int) (w : World) (h0 : 0 ≤ a) (h1 : a ≤ 4294967295) (h2 : 0 ≤ b) (h3 : b ≤ 4294967295) :
    Calls Try.prog 12 #[.int .u32 a, .int .u32 b] w fun e w' => e = .returned (.tuple #[.int .u32 (keep32 (a * b)), .bool (in32 (a * b))]) ∧ w = w' := by
  by_cases hb : b = 0
  · subst hb
    rw [show a * 0 = 0 from by omega, keep32_yes (by omega) (by omega), in32_yes (by omega) (by omega)]
    go_enter Try.func12, Try.ntmps12
    go_wp2
    go_ret2
    exact ⟨rfl, rfl⟩
  · have hb1 : 1 ≤ b := by omega
    have hbn : (b != 0) = true := bne_iff_ne.2 hb
    obtain ⟨hm0, hm1⟩ := mul_bd a b h0 h1 h2 h3
    have hq := @mul_quo a b hb1
    by_cases h : 4294967295 / b < a
    · rw [keep32_no (Or.inr (hq.1 h)), in32_no (Or.inr (hq.1 h))]
      clear hq
      go_enter Try.func12, Try.ntmps12
      go_wp2
      go_ret2
      exact ⟨rfl, rfl⟩
    · have hle : a * b ≤ 4294967295 := by
        by_cases g : a * b ≤ 4294967295
        · exact g
        · exact absurd (hq.2 (by omega)) h
      rw [keep32_yes hm0 hle, in32_yes hm0 hle]
      clear hq
      have hd : decide (4294967295 / b < a) = false := decide_eq_false h
      go_enter Try.func12, Try.ntmps12
      go_wp2
      go_ret2
      exact ⟨rfl, rfl⟩
theorem rturn_any (a c : Int) (w : World) (h0 : 0 ≤ a) (h1 : a ≤ 4294967295) (h2 : -9223372036854775808 ≤ c) (h3 : c ≤ 9223372036854775807) :
    Calls Try.prog 18 #[.int .u32 a, .int .i64 c] w fun e w' => e = .returned (.int .u32 (rotN (c % 32).toNat a)) ∧ w = w' := by
  obtain ⟨ht0, ht1⟩ := tmod32_bd c
  have he := tmod32_mod c
  obtain ⟨m, hm⟩ : ∃ m : Nat, (m : Int) = c % 32 := ⟨(c % 32).toNat, by omega⟩
  have hm31 : m ≤ 31 := by omega
  rw [← hm, Int.toNat_natCast]
  have hs : (c.tmod 32 + 32) % 32 = (m : Int) := by omega
  clear he hm
  go_enter Try.func18, Try.ntmps18
  go_wp2
  go_loop [0, 6, 7] (fun n i _ => ∃ k : Nat, k ≤ m ∧ i = .int .i64 k ∧ n = .int .u32 (rotN k a)) (fun _ i _ => m - (intOf i).toNat)
  case atStart => exact ⟨0, Nat.zero_le _, rfl, rfl⟩
  case round =>
    obtain ⟨k, hk, rfl, rfl⟩ := hrel
    obtain ⟨hb0, hb1⟩ := rotN_bd k a h0 h1
    have hs1 : Hid (rotN (k + 1) a = rotN k a / 2 + 2147483648 * (rotN k a % 2)) := Lib.hid rfl
    by_cases hlt : k < m
    · go_wp2
      go_round
      case rel => exact ⟨k + 1, by omega, by go_num, by rw [hs1.out]⟩
      case measure => simp [intOf]; omega
    · obtain rfl : k = m := by omega
      go_wp2
      go_ret
      exact ⟨rfl, rfl⟩
/-! awake: the calls whose answers the document fixes: it returns true. -/
theorem awake_any (w : World) : Calls Try.prog 6 #[] w fun e w' => e = .returned (.bool true) ∧ Grown w w' := by
  have c1 : ∀ w, Calls Try.prog 7 #[.int .u32 4294967295, .int .u32 1] w fun e w' => e = .returned (.tuple #[.int .u32 0, .bool false]) ∧ Grown w w' := fun w => add32_any 4294967295 1 w (by omega) (by omega) (by omega) (by omega)
  have c2 : ∀ w, Calls Try.prog 11 #[.int .u32 65535, .int .u32 65537] w fun e w' => e = .returned (.tuple #[.int .u32 4294967295, .bool true]) ∧ Grown w w' := fun w => mul32_any 65535 65537 w (by omega) (by omega) (by omega) (by omega)
  have c3 : ∀ w, Calls Try.prog 17 #[.int .u32 1, .int .i64 1] w fun e w' => e = .returned (.int .u32 2147483648) ∧ w = w' := fun w => turn_any 1 1 w (by omega) (by omega) (by omega) (by omega)
  have c4 : ∀ w, Calls Try.prog 19 #[.int .u32 4294967295] w fun e w' => e = .returned (.int .i32 (-1)) ∧ w = w' := fun w => by have h := signed_any 4294967295 w (by omega) (by omega); rwa [show wrap32 4294967295 = -1 from by unfold wrap32; omega] at h
  have C1 := Lib.hid c1; have C2 := Lib.hid c2; have C3 := Lib.hid c3; have C4 := Lib.hid c4
  clear c1 c2 c3 c4
  go_enter Try.func6, Try.ntmps6
  go_wp2_with fail
  refine (C1.out _).mono ?_
  rintro e w1 ⟨rfl, g1⟩
  go_wp2_with fail
  refine (C2.out _).mono ?_
  rintro e w2 ⟨rfl, g2⟩
  go_wp2_with fail
  refine (split_any _ _ (by omega) (by omega)).mono ?_
  rintro e w3 ⟨rfl, rfl⟩
  go_wp2_with fail
  refine (join_any _ _ _ (by omega) (by omega) (by omega) (by omega)).mono ?_
  rintro e w3 ⟨rfl, rfl⟩
  go_wp2_with fail
  refine (C3.out _).mono ?_
  rintro e w3 ⟨rfl, rfl⟩
  go_wp2_with fail
  refine (C4.out _).mono ?_
  rintro e w3 ⟨rfl, rfl⟩
  go_wp2_with fail
  refine (unsigned_any _ _ (by omega) (by omega)).mono ?_
  rintro e w3 ⟨rfl, rfl⟩
  go_wp2
  go_ret
  exact ⟨rfl, grown_trans g1 g2⟩
end Go.Proofs.Ytjjmedmlhjeddaa.Num
