/-
  The walks of NumTells and NumBack over this seat's translation, out of the contracts: each returns true for all numbers of its parameters' types, and changes nothing that was there.
-/
import Derived.Test.YtjjmedmlhjeddaaNumLaws
namespace Go.Proofs.Ytjjmedmlhjeddaa.Num
open Go.ChangeShapes Go.WideShapes Go.ChangeAt Go.RowKit
set_option linter.unusedVariables false

set_option maxRecDepth 100000 in
set_option maxHeartbeats 400000 in
theorem numTells_walk (a b c d y : Int) (w : World) (a0 : 0 ≤ a) (a1 : a ≤ 4294967295) (b0 : 0 ≤ b) (b1 : b ≤ 4294967295) (c0 : 0 ≤ c) (c1 : c ≤ 18446744073709551615) (d0 : 0 ≤ d) (d1 : d ≤ 18446744073709551615)
    (y0 : -9223372036854775808 ≤ y) (y1 : y ≤ 9223372036854775807) :
    Calls Try.prog 3 #[.int .u32 a, .int .u32 b, .int .u64 c, .int .u64 d, .int .i64 y] w fun e w' => e = .returned (.bool true) ∧ Grown w w' := by
  go_enter Try.func3, Try.ntmps3
  go_wp2_with fail
  refine (awake_any _).mono ?_
  rintro e w1 ⟨rfl, g1⟩
  go_wp2_with fail
  refine (add32_any _ _ _ a0 a1 b0 b1).mono ?_
  rintro e w2 ⟨rfl, g2⟩
  go_wp2_with fail
  refine (radd32_any _ _ _ a0 a1 b0 b1).mono ?_
  rintro e w3 ⟨rfl, rfl⟩
  go_wp2_with fail
  refine (sub32_any _ _ _ a0 a1 b0 b1).mono ?_
  rintro e w3 ⟨rfl, g3⟩
  go_wp2_with fail
  refine (rsub32_any _ _ _ a0 a1 b0 b1).mono ?_
  rintro e w4 ⟨rfl, rfl⟩
  go_wp2_with fail
  refine (mul32_any _ _ _ a0 a1 b0 b1).mono ?_
  rintro e w4 ⟨rfl, g4⟩
  go_wp2_with fail
  refine (rmul32_any _ _ _ a0 a1 b0 b1).mono ?_
  rintro e w5 ⟨rfl, rfl⟩
  go_wp2_with fail
  refine (add64_any _ _ _ c0 c1 d0 d1).mono ?_
  rintro e w5 ⟨rfl, g5⟩
  go_wp2_with fail
  refine (radd64_any _ _ _ c0 c1 d0 d1).mono ?_
  rintro e w6 ⟨rfl, rfl⟩
  go_wp2_with fail
  refine (narrow_any _ _ c0 c1).mono ?_
  rintro e w6 ⟨rfl, g6⟩
  go_wp2_with fail
  refine (rnarrow_any _ _ c0 c1).mono ?_
  rintro e w7 ⟨rfl, rfl⟩
  go_wp2_with fail
  refine (turn_any _ _ _ a0 a1 y0 y1).mono ?_
  rintro e w7 ⟨rfl, rfl⟩
  go_wp2_with fail
  refine (rturn_any _ _ _ a0 a1 y0 y1).mono ?_
  rintro e w7 ⟨rfl, rfl⟩
  go_wp2_with fail
  refine (signed_any _ _ a0 a1).mono ?_
  rintro e w7 ⟨rfl, rfl⟩
  go_wp2_with fail
  refine (rsigned_any _ _ a0 a1).mono ?_
  rintro e w7 ⟨rfl, rfl⟩
  go_wp2_with fail
  refine (join_any _ _ _ a0 a1 b0 b1).mono ?_
  rintro e w7 ⟨rfl, rfl⟩
  go_wp2
  go_ret
  exact ⟨rfl, grown_trans g1 (grown_trans g2 (grown_trans g3 (grown_trans g4 (grown_trans g5 g6))))⟩

/-- What NumBack asks of its first two numbers: one behind the other, by the four ways of what fits. -/
theorem add_yes (a b : Int) (w : World) (a0 : 0 ≤ a) (a1 : a ≤ 4294967295) (b0 : 0 ≤ b) (b1 : b ≤ 4294967295) (h : a + b ≤ 4294967295) :
    Calls Try.prog 7 #[.int .u32 a, .int .u32 b] w fun e w' => e = .returned (.tuple #[.int .u32 (a + b), .bool true]) ∧ Grown w w' := by
  have c := add32_any a b w a0 a1 b0 b1
  rwa [keep32_yes (by omega) h, in32_yes (by omega) h] at c
theorem add_no (a b : Int) (w : World) (a0 : 0 ≤ a) (a1 : a ≤ 4294967295) (b0 : 0 ≤ b) (b1 : b ≤ 4294967295) (h : 4294967295 < a + b) :
    Calls Try.prog 7 #[.int .u32 a, .int .u32 b] w fun e w' => e = .returned (.tuple #[.int .u32 0, .bool false]) ∧ Grown w w' := by
  have c := add32_any a b w a0 a1 b0 b1
  rwa [keep32_no (by omega), in32_no (by omega)] at c
theorem sub_yes (a b c : Int) (w : World) (a0 : 0 ≤ a) (a1 : a ≤ 4294967295) (b0 : 0 ≤ b) (b1 : b ≤ 4294967295) (h : b ≤ a) (hc : a - b = c) :
    Calls Try.prog 9 #[.int .u32 a, .int .u32 b] w fun e w' => e = .returned (.tuple #[.int .u32 c, .bool true]) ∧ Grown w w' := by
  have c := sub32_any a b w a0 a1 b0 b1
  rwa [keep32_yes (by omega) (by omega), in32_yes (by omega) (by omega), hc] at c
theorem add_back (a b : Int) (w : World) (a0 : 0 ≤ a) (a1 : a ≤ 4294967295) (b0 : 0 ≤ b) (b1 : b ≤ 4294967295) (h : b ≤ a) :
    Calls Try.prog 7 #[.int .u32 (a - b), .int .u32 b] w fun e w' => e = .returned (.tuple #[.int .u32 a, .bool true]) ∧ Grown w w' := by
  have c := add_yes (a - b) b w (by omega) (by omega) b0 b1 (by omega)
  rwa [show a - b + b = a from by omega] at c
theorem sub_no (a b : Int) (w : World) (a0 : 0 ≤ a) (a1 : a ≤ 4294967295) (b0 : 0 ≤ b) (b1 : b ≤ 4294967295) (h : a < b) :
    Calls Try.prog 9 #[.int .u32 a, .int .u32 b] w fun e w' => e = .returned (.tuple #[.int .u32 0, .bool false]) ∧ Grown w w' := by
  have c := sub32_any a b w a0 a1 b0 b1
  rwa [keep32_no (by omega), in32_no (by omega)] at c
theorem narrow_yes (c : Int) (w : World) (c0 : 0 ≤ c) (h : c ≤ 4294967295) :
    Calls Try.prog 15 #[.int .u64 c] w fun e w' => e = .returned (.tuple #[.int .u32 (c % 4294967296), .bool true]) ∧ Grown w w' := by
  have k := narrow_any c w c0 (by omega)
  rw [show c % 4294967296 = c from by omega]
  rwa [keep32_yes c0 h, in32_yes c0 h] at k
theorem narrow_no (c : Int) (w : World) (c1 : c ≤ 18446744073709551615) (h : 4294967295 < c) :
    Calls Try.prog 15 #[.int .u64 c] w fun e w' => e = .returned (.tuple #[.int .u32 0, .bool false]) ∧ Grown w w' := by
  have k := narrow_any c w (by omega) c1
  rwa [keep32_no (by omega), in32_no (by omega)] at k
theorem join_back (c : Int) (w : World) (c0 : 0 ≤ c) (c1 : c ≤ 18446744073709551615) :
    Calls Try.prog 21 #[.int .u32 (c / 4294967296), .int .u32 (c % 4294967296)] w fun e w' => e = .returned (.int .u64 c) ∧ w = w' := by
  have k := join_any (c / 4294967296) (c % 4294967296) w (by omega) (by omega) (by omega) (by omega)
  rwa [show c / 4294967296 * 4294967296 + c % 4294967296 = c from by omega] at k
theorem turn_back (a x y : Int) (w : World) (a0 : 0 ≤ a) (a1 : a ≤ 4294967295) (y0 : -9223372036854775808 ≤ y) (y1 : y ≤ 9223372036854775807) (h : (x % 32 + y % 32) % 32 = 0) :
    Calls Try.prog 17 #[.int .u32 (rotN (x % 32).toNat a), .int .i64 y] w fun e w' => e = .returned (.int .u32 a) ∧ w = w' := by
  obtain ⟨r0, r1⟩ := rotN_bd (x % 32).toNat a a0 a1
  have k := turn_any (rotN (x % 32).toNat a) y w r0 r1 y0 y1
  rwa [turn_zero a x y a0 a1 h] at k
theorem signed_back (d : Int) (w : World) (h0 : -2147483648 ≤ d) (h1 : d ≤ 2147483647) :
    Calls Try.prog 19 #[.int .u32 (d % 4294967296)] w fun e w' => e = .returned (.int .i32 d) ∧ w = w' := by
  have k := signed_any (d % 4294967296) w (by omega) (by omega)
  rwa [back_signed d h0 h1] at k
theorem unsigned_back (a : Int) (w : World) (h0 : 0 ≤ a) (h1 : a ≤ 4294967295) :
    Calls Try.prog 23 #[.int .i32 (wrap32 a)] w fun e w' => e = .returned (.int .u32 a) ∧ w = w' := by
  have b := wrap32_bd a
  have k := unsigned_any (wrap32 a) w b.1 b.2
  rwa [back_unsigned a h0 h1] at k

set_option maxRecDepth 100000 in
set_option maxHeartbeats 800000 in
theorem numBack_walk (a b c y d : Int) (w : World) (a0 : 0 ≤ a) (a1 : a ≤ 4294967295) (b0 : 0 ≤ b) (b1 : b ≤ 4294967295) (c0 : 0 ≤ c) (c1 : c ≤ 18446744073709551615)
    (y0 : -9223372036854775808 ≤ y) (y1 : y ≤ 9223372036854775807) (d0 : -2147483648 ≤ d) (d1 : d ≤ 2147483647) :
    Calls Try.prog 4 #[.int .u32 a, .int .u32 b, .int .u64 c, .int .i64 y, .int .i32 d] w fun e w' => e = .returned (.bool true) ∧ Grown w w' := by
  obtain ⟨t0, t1⟩ := tmod32_bd y
  have te := Lib.hid (tmod_emod y)
  go_enter Try.func4, Try.ntmps4
  go_wp2_with fail
  refine (awake_any _).mono ?_
  rintro e w1 ⟨rfl, g1⟩
  go_wp2_with fail
  by_cases h1 : a + b ≤ 4294967295
  all_goals first
    | (have k1 : a + b ≤ 4294967295 := h1
       refine (add_yes _ _ _ a0 a1 b0 b1 k1).mono ?_
       rintro e w2a ⟨rfl, g2a⟩
       go_wp2_with fail
       refine (sub_yes (a + b) b a _ (by omega) k1 b0 b1 (by omega) (by omega)).mono ?_
       rintro e w2 ⟨rfl, g2b⟩
       have g2 := grown_trans g2a g2b
       clear g2a g2b
       go_wp2_with fail)
    | (have k1 : ¬ a + b ≤ 4294967295 := h1
       refine (add_no _ _ _ a0 a1 b0 b1 (by omega)).mono ?_
       rintro e w2 ⟨rfl, g2⟩
       go_wp2_with fail)
  all_goals by_cases h2 : b ≤ a
  all_goals first
    | (have k2 : b ≤ a := h2
       refine (sub_yes a b (a - b) _ a0 a1 b0 b1 k2 rfl).mono ?_
       rintro e w3a ⟨rfl, g3a⟩
       go_wp2_with fail
       refine (add_back a b _ a0 a1 b0 b1 k2).mono ?_
       rintro e w3 ⟨rfl, g3b⟩
       have g3 := grown_trans g3a g3b
       clear g3a g3b
       go_wp2_with fail)
    | (have k2 : ¬ b ≤ a := h2
       refine (sub_no _ _ _ a0 a1 b0 b1 (by omega)).mono ?_
       rintro e w3 ⟨rfl, g3⟩
       go_wp2_with fail)
  all_goals
    refine (split_any _ _ c0 c1).mono ?_
    rintro e w4 ⟨rfl, rfl⟩
    go_wp2_with fail
  all_goals by_cases h3 : c ≤ 4294967295
  all_goals first
    | (have k3 : c ≤ 4294967295 := h3
       refine (narrow_yes _ _ c0 k3).mono ?_
       rintro e w4 ⟨rfl, g4⟩
       have z3 : (c / 4294967296 == 0) = true := beq_iff_eq.2 (by omega)
       go_wp2_with fail)
    | (have k3 : ¬ c ≤ 4294967295 := h3
       refine (narrow_no _ _ c1 (by omega)).mono ?_
       rintro e w4 ⟨rfl, g4⟩
       have z3 : (c / 4294967296 == 0) = false := beq_eq_false_iff_ne.2 (by omega)
       go_wp2_with fail)
  all_goals
    clear z3
    refine (join_back _ _ c0 c1).mono ?_
    rintro e w5 ⟨rfl, rfl⟩
    go_wp2_with fail
    refine (turn_any _ _ _ a0 a1 y0 y1).mono ?_
    rintro e w5 ⟨rfl, rfl⟩
    go_wp2_with fail
    refine (turn_back a y (-(y.tmod 32)) _ a0 a1 (by omega) (by omega) (by have := te.out; omega)).mono ?_
    rintro e w5 ⟨rfl, rfl⟩
    go_wp2_with fail
    refine (turn_any _ _ _ a0 a1 (by omega) (by omega)).mono ?_
    rintro e w5 ⟨rfl, rfl⟩
    go_wp2_with fail
    refine (turn_back a (y.tmod 32) (32 - y.tmod 32) _ a0 a1 (by omega) (by omega) (by omega)).mono ?_
    rintro e w5 ⟨rfl, rfl⟩
    go_wp2_with fail
    refine (unsigned_any _ _ d0 d1).mono ?_
    rintro e w5 ⟨rfl, rfl⟩
    go_wp2_with fail
    refine (signed_back _ _ d0 d1).mono ?_
    rintro e w5 ⟨rfl, rfl⟩
    go_wp2_with fail
    refine (signed_any _ _ a0 a1).mono ?_
    rintro e w5 ⟨rfl, rfl⟩
    go_wp2_with fail
    refine (unsigned_back _ _ a0 a1).mono ?_
    rintro e w5 ⟨rfl, rfl⟩
    go_wp2
    go_ret
    exact ⟨rfl, grown_trans g1 (grown_trans g2 (grown_trans g3 g4))⟩
end Go.Proofs.Ytjjmedmlhjeddaa.Num
