/-
  The walks of layer 1's statements over this seat's translation, out of the contracts: each returns true for all numbers of its parameters' types, and changes nothing that was there.
-/
import Derived.Test.YtjjmedmlhjeddaaNum
namespace Go.Proofs.Ytjjmedmlhjeddaa.Num
open Go.ChangeShapes Go.WideShapes Go.ChangeAt Go.RowKit
set_option linter.unusedVariables false

/-! Plain facts on turns that are turned back, and on turns by parts. -/
theorem turn_parts (a x y z : Int) (h0 : 0 ≤ a) (h1 : a ≤ 4294967295) (h : (x % 32 + y % 32) % 32 = z % 32) : rotN (y % 32).toNat (rotN (x % 32).toNat a) = rotN (z % 32).toNat a := by
  rw [← rotN_add, rotN_mod _ a h0 h1]
  congr 1
  omega
theorem turn_zero (a x y : Int) (h0 : 0 ≤ a) (h1 : a ≤ 4294967295) (h : (x % 32 + y % 32) % 32 = 0) : rotN (y % 32).toNat (rotN (x % 32).toNat a) = a := by
  rw [turn_parts a x y 0 h0 h1 (by omega)]; rfl
theorem tmod_emod (c : Int) : c.tmod 32 % 32 = c % 32 := by rw [tmod32]; split <;> omega
theorem back_signed (d : Int) (h0 : -2147483648 ≤ d) (h1 : d ≤ 2147483647) : wrap32 (d % 4294967296) = d := by unfold wrap32; omega
theorem back_unsigned (a : Int) (h0 : 0 ≤ a) (h1 : a ≤ 4294967295) : wrap32 a % 4294967296 = a := by unfold wrap32; omega
theorem wrap32_bd (a : Int) : -2147483648 ≤ wrap32 a ∧ wrap32 a ≤ 2147483647 := by unfold wrap32; omega

set_option maxRecDepth 100000 in
theorem numOrder_out (a b c d x y : Int) (w : World) (ho : x < -1000 ∨ 1000 < x ∨ y < -1000 ∨ 1000 < y) :
    Calls Try.prog 5 #[.int .u32 a, .int .u32 b, .int .u64 c, .int .u64 d, .int .i64 x, .int .i64 y] w fun e w' => e = .returned (.bool true) ∧ Grown w w' := by
  by_cases h1 : x < -1000
  · clear ho
    go_enter Try.func5, Try.ntmps5
    go_wp2_with fail
    refine (awake_any _).mono ?_
    rintro e w1 ⟨rfl, g1⟩
    go_wp2
    go_ret
    exact ⟨rfl, g1⟩
  have h1' : decide (x < -1000) = false := decide_eq_false h1
  by_cases h2 : 1000 < x
  · clear ho
    go_enter Try.func5, Try.ntmps5
    go_wp2_with fail
    refine (awake_any _).mono ?_
    rintro e w1 ⟨rfl, g1⟩
    go_wp2
    go_ret
    exact ⟨rfl, g1⟩
  have h2' : decide (1000 < x) = false := decide_eq_false h2
  by_cases h3 : y < -1000
  · clear ho
    go_enter Try.func5, Try.ntmps5
    go_wp2_with fail
    refine (awake_any _).mono ?_
    rintro e w1 ⟨rfl, g1⟩
    go_wp2
    go_ret
    exact ⟨rfl, g1⟩
  have h3' : decide (y < -1000) = false := decide_eq_false h3
  have h4 : 1000 < y := by omega
  clear ho
  go_enter Try.func5, Try.ntmps5
  go_wp2_with fail
  refine (awake_any _).mono ?_
  rintro e w1 ⟨rfl, g1⟩
  go_wp2
  go_ret
  exact ⟨rfl, g1⟩

set_option maxRecDepth 100000 in
theorem numOrder_in (a b c d x y : Int) (w : World) (a0 : 0 ≤ a) (a1 : a ≤ 4294967295) (b0 : 0 ≤ b) (b1 : b ≤ 4294967295) (c0 : 0 ≤ c) (c1 : c ≤ 18446744073709551615) (d0 : 0 ≤ d) (d1 : d ≤ 18446744073709551615)
    (x0 : -1000 ≤ x) (x1 : x ≤ 1000) (y0 : -1000 ≤ y) (y1 : y ≤ 1000) :
    Calls Try.prog 5 #[.int .u32 a, .int .u32 b, .int .u64 c, .int .u64 d, .int .i64 x, .int .i64 y] w fun e w' => e = .returned (.bool true) ∧ Grown w w' := by
  have hx0 : decide (x < -1000) = false := decide_eq_false (by omega)
  have hx1 : decide (1000 < x) = false := decide_eq_false (by omega)
  have hy0 : decide (y < -1000) = false := decide_eq_false (by omega)
  have hy1 : decide (1000 < y) = false := decide_eq_false (by omega)
  have C1 := Lib.hid (fun w => by have h := add32_any b a w b0 b1 a0 a1; rwa [Int.add_comm b a] at h : ∀ w, Calls Try.prog 7 #[.int .u32 b, .int .u32 a] w fun e w' => e = .returned (.tuple #[.int .u32 (keep32 (a + b)), .bool (in32 (a + b))]) ∧ Grown w w')
  have C2 := Lib.hid (fun w => by have h := mul32_any b a w b0 b1 a0 a1; rwa [Int.mul_comm b a] at h : ∀ w, Calls Try.prog 11 #[.int .u32 b, .int .u32 a] w fun e w' => e = .returned (.tuple #[.int .u32 (keep32 (a * b)), .bool (in32 (a * b))]) ∧ Grown w w')
  have C3 := Lib.hid (fun w => by have h := add64_any d c w d0 d1 c0 c1; rwa [Int.add_comm d c] at h : ∀ w, Calls Try.prog 13 #[.int .u64 d, .int .u64 c] w fun e w' => e = .returned (.tuple #[.int .u64 (keep64 (c + d)), .bool (in64 (c + d))]) ∧ Grown w w')
  obtain ⟨r0, r1⟩ := rotN_bd (x % 32).toNat a a0 a1
  have C4 := Lib.hid (fun w => by have h := turn_any (rotN (x % 32).toNat a) y w r0 r1 (by omega) (by omega); rwa [turn_parts a x y (x + y) a0 a1 (by omega)] at h : ∀ w, Calls Try.prog 17 #[.int .u32 (rotN (x % 32).toNat a), .int .i64 y] w fun e w' => e = .returned (.int .u32 (rotN ((x + y) % 32).toNat a)) ∧ w = w')
  go_enter Try.func5, Try.ntmps5
  go_wp2_with fail
  refine (awake_any _).mono ?_
  rintro e w1 ⟨rfl, g1⟩
  go_wp2_with fail
  refine (add32_any _ _ _ a0 a1 b0 b1).mono ?_
  rintro e w2 ⟨rfl, g2⟩
  go_wp2_with fail
  refine (C1.out _).mono ?_
  rintro e w3 ⟨rfl, g3⟩
  go_wp2_with fail
  refine (mul32_any _ _ _ a0 a1 b0 b1).mono ?_
  rintro e w4 ⟨rfl, g4⟩
  go_wp2_with fail
  refine (C2.out _).mono ?_
  rintro e w5 ⟨rfl, g5⟩
  go_wp2_with fail
  refine (add64_any _ _ _ c0 c1 d0 d1).mono ?_
  rintro e w6 ⟨rfl, g6⟩
  go_wp2_with fail
  refine (C3.out _).mono ?_
  rintro e w7 ⟨rfl, g7⟩
  go_wp2_with fail
  refine (turn_any _ _ _ a0 a1 (by omega) (by omega)).mono ?_
  rintro e w8 ⟨rfl, rfl⟩
  go_wp2_with fail
  refine (C4.out _).mono ?_
  rintro e w8 ⟨rfl, rfl⟩
  go_wp2_with fail
  refine (turn_any _ _ _ a0 a1 (by omega) (by omega)).mono ?_
  rintro e w8 ⟨rfl, rfl⟩
  go_wp2
  go_ret
  exact ⟨rfl, grown_trans g1 (grown_trans g2 (grown_trans g3 (grown_trans g4 (grown_trans g5 (grown_trans g6 g7)))))⟩
end Go.Proofs.Ytjjmedmlhjeddaa.Num
