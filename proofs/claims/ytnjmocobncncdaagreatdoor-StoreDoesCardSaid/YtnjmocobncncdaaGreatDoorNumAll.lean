import Derived.WalkKit
import Derived.PlainAid
import Derived.Test.YtnjmocobncncdaaGreatDoorRows
import Derived.ProofKit
import Derived.OpenShut
import Derived.Handy
import Derived.Lib.Hide
import Derived.BigQuiet
/-
  Plain facts about numbers of 32 bits that are turned: no program, no world. Turned by k places is turned by one place, k times; by 32 places it is as it was; shifts and 'or' say the same.
-/
namespace Go.Proofs.YtnjmocobncncdaaGreatDoor.Num
open Go.RowKit

/-- Turned to the right by one place. -/
def rot1 (n : Int) : Int := n / 2 + 2147483648 * (n % 2)
/-- Turned to the right by k places, one by one. -/
def rotN : Nat → Int → Int
  | 0, n => n
  | k + 1, n => rot1 (rotN k n)

theorem rot1_bd (n : Int) (h0 : 0 ≤ n) (h1 : n ≤ 4294967295) : 0 ≤ rot1 n ∧ rot1 n ≤ 4294967295 := by unfold rot1; omega
theorem rotN_bd (k : Nat) (n : Int) (h0 : 0 ≤ n) (h1 : n ≤ 4294967295) : 0 ≤ rotN k n ∧ rotN k n ≤ 4294967295 := by
  induction k with
  | zero => exact ⟨h0, h1⟩
  | succ k ih => exact rot1_bd _ ih.1 ih.2
/-- The closed form, over natural numbers. -/
theorem pow_split (k : Nat) (h : k ≤ 32) : 2 ^ (32 - k) * 2 ^ k = 4294967296 := by
  rw [← Nat.pow_add]; rw [Nat.sub_add_cancel h]
theorem step_plain (n P Q : Nat) (hPQ : Q * P = 2147483648) :
    (n / P + n % P * (2 * Q)) / 2 + 2147483648 * ((n / P + n % P * (2 * Q)) % 2) = n / (P * 2) + n % (P * 2) * Q := by
  have e1 : n % (P * 2) = n % P + P * (n / P % 2) := Nat.mod_mul
  have e2 : n / (P * 2) = n / P / 2 := (Nat.div_div_eq_div_mul n P 2).symm
  have e3 : n % P * (2 * Q) = 2 * (n % P * Q) := by rw [Nat.mul_left_comm]
  have e4 : (n % P + P * (n / P % 2)) * Q = n % P * Q + 2147483648 * (n / P % 2) := by
    rw [Nat.add_mul, ← hPQ, Nat.mul_comm P, Nat.mul_assoc, Nat.mul_comm P Q, Nat.mul_comm (n / P % 2)]
  rw [e1, e2, e3, e4]
  generalize n % P * Q = x
  generalize n / P = y
  omega
theorem rotN_closed (k : Nat) (hk : k ≤ 32) (n : Nat) : rotN k (n : Int) = ((n / 2 ^ k + n % 2 ^ k * 2 ^ (32 - k) : Nat) : Int) := by
  induction k with
  | zero => show (n : Int) = _; simp
  | succ k ih =>
    have hQ : 2 ^ (32 - (k + 1)) * 2 ^ k = 2147483648 := by
      rw [← Nat.pow_add, show 32 - (k + 1) + k = 31 from by omega]
    have h2 : 2 ^ (32 - k) = 2 * 2 ^ (32 - (k + 1)) := by
      rw [show 32 - k = (32 - (k + 1)) + 1 from by omega, Nat.pow_succ, Nat.mul_comm]
    show rot1 (rotN k n) = _
    rw [ih (by omega), h2, Nat.pow_succ, ← step_plain n (2 ^ k) _ hQ]
    generalize n / 2 ^ k + n % 2 ^ k * (2 * 2 ^ (32 - (k + 1))) = m
    unfold rot1
    omega
theorem or_plain (n k : Nat) (hk : k ≤ 31) (hn : n < 4294967296) : (n / 2 ^ k) ||| (n * 2 ^ (32 - k) % 4294967296) = n / 2 ^ k + n % 2 ^ k * 2 ^ (32 - k) := by
  have e : n * 2 ^ (32 - k) % 4294967296 = 2 ^ (32 - k) * (n % 2 ^ k) := by
    rw [← pow_split k (by omega), Nat.mul_comm n, Nat.mul_mod_mul_left]
  have hlt : n / 2 ^ k < 2 ^ (32 - k) := by
    apply Nat.div_lt_of_lt_mul
    rw [Nat.mul_comm, pow_split k (by omega)]
    exact hn
  rw [e, Nat.or_comm, ← Nat.two_pow_add_eq_or_of_lt hlt, Nat.mul_comm, Nat.add_comm]

/-- Shifted to the right by k, or shifted to the left by what is left of 32: turned by k. -/
theorem turn_plain (a : Int) (k : Nat) (hk : k ≤ 31) (h0 : 0 ≤ a) (h1 : a ≤ 4294967295) :
    bits BinOp.or IntKind.u32 (a / 2 ^ k) (a * 2 ^ (32 - k) % 4294967296) = rotN k a := by
  obtain ⟨n, rfl⟩ := Int.eq_ofNat_of_zero_le h0
  have e1 : ((n : Int) / 2 ^ k) = ((n / 2 ^ k : Nat) : Int) := by simp
  have e2 : ((n : Int) * 2 ^ (32 - k) % 4294967296) = ((n * 2 ^ (32 - k) % 4294967296 : Nat) : Int) := by simp
  have hb : n / 2 ^ k < 4294967296 := Nat.lt_of_le_of_lt (Nat.div_le_self _ _) (by omega)
  have hb2 : n * 2 ^ (32 - k) % 4294967296 < 4294967296 := Nat.mod_lt _ (by omega)
  rw [e1, e2, u32_or_nat _ _ hb hb2, or_plain n k hk (by omega), rotN_closed k (by omega)]

/-- The lowest five bits of a number, of whatever sign. -/
theorem low5 (c : Int) : bits BinOp.and IntKind.u32 (c % 4294967296) 31 = c % 32 := by
  have h := u32_and_nat (c % 4294967296).toNat 31 (by omega) (by omega)
  rw [show (((c % 4294967296).toNat : Nat) : Int) = c % 4294967296 from by omega] at h
  rw [show ((31 : Nat) : Int) = 31 from rfl] at h
  rw [h, show (31 : Nat) = 2 ^ 5 - 1 from rfl, Nat.and_two_pow_sub_one_eq_mod]
  omega
end Go.Proofs.YtnjmocobncncdaaGreatDoor.Num

/-
  The contracts of package num's functions, and of the document's answers for them, over this seat's translation: what each call returns for every argument, and that nothing that was there changes.
-/
namespace Go.Proofs.YtnjmocobncncdaaGreatDoor.Num
open Go.ChangeShapes Go.WideShapes Go.ChangeAt Go.RowKit
set_option linter.unusedVariables false

theorem ret_int {k : IntKind} {a b : Int} (h : a = b) : Ending.returned (.int k a) = .returned (.int k b) := by rw [h]

theorem turn_any (a c : Int) (w : World) (h0 : 0 ≤ a) (h1 : a ≤ 4294967295) (h2 : -9223372036854775808 ≤ c) (h3 : c ≤ 9223372036854775807) :
    Calls Tryz.prog 108 #[.int .u32 a, .int .i64 c] w fun e w' => e = .returned (.int .u32 (rotN (c % 32).toNat a)) ∧ w = w' := by
  obtain ⟨k, hk⟩ : ∃ k : Nat, (k : Int) = c % 32 := ⟨(c % 32).toNat, by omega⟩
  have hk31 : k ≤ 31 := by omega
  have hr : bits BinOp.and IntKind.u32 (c % 4294967296) 31 = (k : Int) := by rw [low5, hk]
  have HK := Lib.hid hk; clear hk
  go_enter Tryz.func108, Tryz.ntmps108
  go_wp2
  go_ret
  refine ⟨ret_int ?_, rfl⟩
  rw [← HK.out, Int.toNat_natCast]
  rw [← turn_plain a k hk31 h0 h1]
theorem split_any (c : Int) (w : World) (h2 : 0 ≤ c) (h3 : c ≤ 18446744073709551615) :
    Calls Tryz.prog 102 #[.int .u64 c] w fun e w' => e = .returned (.tuple #[.int .u32 (c / 4294967296), .int .u32 (c % 4294967296)]) ∧ w = w' := by
  go_enter Tryz.func102, Tryz.ntmps102
  go_wp2
  go_ret2
  exact ⟨rfl, rfl⟩
end Go.Proofs.YtnjmocobncncdaaGreatDoor.Num

/-
  The contracts of package slot's functions, and of the document's answers for them: what each call returns for every argument, and that nothing that was there changes.
-/
namespace Go.Proofs.YtnjmocobncncdaaGreatDoor.Slot
open Go.ChangeShapes Go.WideShapes Go.ChangeAt Go.RowKit
open Num (ret_int)
set_option linter.unusedVariables false

/-- An error's number: OK where it fits, else ErrOver. -/
def over (x : Bool) : Int := if x = true then 0 else 5
end Go.Proofs.YtnjmocobncncdaaGreatDoor.Slot
