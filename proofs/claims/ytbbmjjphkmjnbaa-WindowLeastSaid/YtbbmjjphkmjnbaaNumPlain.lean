/-
  Plain facts about numbers of 32 bits that are turned: no program, no world. Turned by k places is turned by one place, k times; by 32 places it is as it was; shifts and 'or' say the same.
-/
import Derived.WalkKit
import Derived.PlainAid
namespace Go.Proofs.Ytbbmjjphkmjnbaa.Num
open Go.RowKit

/-- Turned to the right by one place. -/
def rot1 (n : Int) : Int := n / 2 + 2147483648 * (n % 2)
/-- Turned to the right by k places, one by one. -/
def rotN : Nat → Int → Int
  | 0, n => n
  | k + 1, n => rot1 (rotN k n)

theorem rot1_bd (n : Int) (h0 : 0 ≤ n) (h1 : n ≤ 4294967295) : 0 ≤ rot1 n ∧ rot1 n ≤ 4294967295 := by unfold rot1; omega
theorem rotN_bd (k : Nat) (n : Int) (h0 : 0 ≤ n) (h1 : n ≤ 4294967295) : 0 ≤ rotN k n ∧ rotN k n ≤ 4294967295 := by
  induction k with
  | zero => exact ⟨h0, h1⟩
  | succ k ih => exact rot1_bd _ ih.1 ih.2
theorem rotN_add (j k : Nat) (n : Int) : rotN (j + k) n = rotN j (rotN k n) := by
  induction j with
  | zero => rw [Nat.zero_add]; rfl
  | succ j ih => rw [Nat.succ_add]; show rot1 (rotN (j + k) n) = rot1 (rotN j (rotN k n)); rw [ih]

/-- The closed form, over natural numbers. -/
theorem pow_split (k : Nat) (h : k ≤ 32) : 2 ^ (32 - k) * 2 ^ k = 4294967296 := by
  rw [← Nat.pow_add]; rw [Nat.sub_add_cancel h]
theorem step_plain (n P Q : Nat) (hPQ : Q * P = 2147483648) :
    (n / P + n % P * (2 * Q)) / 2 + 2147483648 * ((n / P + n % P * (2 * Q)) % 2) = n / (P * 2) + n % (P * 2) * Q := by
  have e1 : n % (P * 2) = n % P + P * (n / P % 2) := Nat.mod_mul
  have e2 : n / (P * 2) = n / P / 2 := (Nat.div_div_eq_div_mul n P 2).symm
  have e3 : n % P * (2 * Q) = 2 * (n % P * Q) := by rw [Nat.mul_left_comm]
  have e4 : (n % P + P * (n / P % 2)) * Q = n % P * Q + 2147483648 * (n / P % 2) := by
    rw [Nat.add_mul, ← hPQ, Nat.mul_comm P, Nat.mul_assoc, Nat.mul_comm P Q, Nat.mul_comm (n / P % 2)]
  rw [e1, e2, e3, e4]
  generalize n % P * Q = x
  generalize n / P = y
  omega
theorem rotN_closed (k : Nat) (hk : k ≤ 32) (n : Nat) : rotN k (n : Int) = ((n / 2 ^ k + n % 2 ^ k * 2 ^ (32 - k) : Nat) : Int) := by
  induction k with
  | zero => show (n : Int) = _; simp
  | succ k ih =>
    have hQ : 2 ^ (32 - (k + 1)) * 2 ^ k = 2147483648 := by
      rw [← Nat.pow_add, show 32 - (k + 1) + k = 31 from by omega]
    have h2 : 2 ^ (32 - k) = 2 * 2 ^ (32 - (k + 1)) := by
      rw [show 32 - k = (32 - (k + 1)) + 1 from by omega, Nat.pow_succ, Nat.mul_comm]
    show rot1 (rotN k n) = _
    rw [ih (by omega), h2, Nat.pow_succ, ← step_plain n (2 ^ k) _ hQ]
    generalize n / 2 ^ k + n % 2 ^ k * (2 * 2 ^ (32 - (k + 1))) = m
    unfold rot1
    omega
theorem rotN_32 (a : Int) (h0 : 0 ≤ a) (h1 : a ≤ 4294967295) : rotN 32 a = a := by
  obtain ⟨n, rfl⟩ := Int.eq_ofNat_of_zero_le h0
  rw [rotN_closed 32 (by omega)]
  simp only [Nat.sub_self, Nat.pow_zero, Nat.mul_one]
  omega
/-- Whatever the number of places: those that are left of it by 32. -/
theorem rotN_mod (k : Nat) (a : Int) (h0 : 0 ≤ a) (h1 : a ≤ 4294967295) : rotN k a = rotN (k % 32) a := by
  have : ∀ q r : Nat, rotN (32 * q + r) a = rotN r a := by
    intro q r
    induction q with
    | zero => rw [Nat.mul_zero, Nat.zero_add]
    | succ q ih =>
      rw [show 32 * (q + 1) + r = 32 + (32 * q + r) from by omega, rotN_add, ih]
      exact rotN_32 _ (rotN_bd _ _ h0 h1).1 (rotN_bd _ _ h0 h1).2
  have e := this (k / 32) (k % 32)
  rw [Nat.div_add_mod] at e
  exact e

theorem or_plain (n k : Nat) (hk : k ≤ 31) (hn : n < 4294967296) : (n / 2 ^ k) ||| (n * 2 ^ (32 - k) % 4294967296) = n / 2 ^ k + n % 2 ^ k * 2 ^ (32 - k) := by
  have e : n * 2 ^ (32 - k) % 4294967296 = 2 ^ (32 - k) * (n % 2 ^ k) := by
    rw [← pow_split k (by omega), Nat.mul_comm n, Nat.mul_mod_mul_left]
  have hlt : n / 2 ^ k < 2 ^ (32 - k) := by
    apply Nat.div_lt_of_lt_mul
    rw [Nat.mul_comm, pow_split k (by omega)]
    exact hn
  rw [e, Nat.or_comm, ← Nat.two_pow_add_eq_or_of_lt hlt, Nat.mul_comm, Nat.add_comm]

/-- Shifted to the right by k, or shifted to the left by what is left of 32: turned by k. -/
theorem turn_plain (a : Int) (k : Nat) (hk : k ≤ 31) (h0 : 0 ≤ a) (h1 : a ≤ 4294967295) :
    bits BinOp.or IntKind.u32 (a / 2 ^ k) (a * 2 ^ (32 - k) % 4294967296) = rotN k a := by
  obtain ⟨n, rfl⟩ := Int.eq_ofNat_of_zero_le h0
  have e1 : ((n : Int) / 2 ^ k) = ((n / 2 ^ k : Nat) : Int) := by simp
  have e2 : ((n : Int) * 2 ^ (32 - k) % 4294967296) = ((n * 2 ^ (32 - k) % 4294967296 : Nat) : Int) := by simp
  have hb : n / 2 ^ k < 4294967296 := Nat.lt_of_le_of_lt (Nat.div_le_self _ _) (by omega)
  have hb2 : n * 2 ^ (32 - k) % 4294967296 < 4294967296 := Nat.mod_lt _ (by omega)
  rw [e1, e2, u32_or_nat _ _ hb hb2, or_plain n k hk (by omega), rotN_closed k (by omega)]

/-- The lowest five bits of a number, of whatever sign. -/
theorem low5 (c : Int) : bits BinOp.and IntKind.u32 (c % 4294967296) 31 = c % 32 := by
  have h := u32_and_nat (c % 4294967296).toNat 31 (by omega) (by omega)
  rw [show (((c % 4294967296).toNat : Nat) : Int) = c % 4294967296 from by omega] at h
  rw [show ((31 : Nat) : Int) = 31 from rfl] at h
  rw [h, show (31 : Nat) = 2 ^ 5 - 1 from rfl, Nat.and_two_pow_sub_one_eq_mod]
  omega
/-- Two halves, one behind the other. -/
theorem join_plain (a b : Int) (h0 : 0 ≤ a) (h1 : a ≤ 4294967295) (h2 : 0 ≤ b) (h3 : b ≤ 4294967295) : bits BinOp.or IntKind.u64 (a * 4294967296) b = a * 4294967296 + b := by
  have h := bits_or_u64_nat (a.toNat * 4294967296) b.toNat (by omega) (by omega)
  rw [show ((a.toNat * 4294967296 : Nat) : Int) = a * 4294967296 from by omega, show ((b.toNat : Nat) : Int) = b from by omega] at h
  rw [h, show a.toNat * 4294967296 = 2 ^ 32 * a.toNat from by omega, ← Nat.two_pow_add_eq_or_of_lt (by omega)]
  omega
/-- What is left by 32, cut towards nought. -/
theorem tmod32 (c : Int) : c.tmod 32 = if 0 ≤ c then c % 32 else -((-c) % 32) := by
  split
  · rename_i h; exact Int.tmod_eq_emod_of_nonneg h
  · rename_i h
    have e := Int.neg_tmod (-c) 32
    rw [Int.neg_neg, Int.tmod_eq_emod_of_nonneg (by omega : 0 ≤ -c)] at e
    exact e
theorem tmod32_bd (c : Int) : -32 < c.tmod 32 ∧ c.tmod 32 < 32 := by rw [tmod32]; split <;> omega
theorem tmod32_mod (c : Int) : (c.tmod 32 + 32) % 32 = c % 32 := by rw [tmod32]; split <;> omega
/-! What fits, and what is answered beside it. -/
/-- A number beside a yes; 0 beside a no. -/
def tell (x : Bool) (n : Int) : Int := if x = true then n else 0
def in32 (n : Int) : Bool := decide (0 ≤ n ∧ n ≤ 4294967295)
def keep32 (n : Int) : Int := if in32 n = true then n else 0
def in64 (n : Int) : Bool := decide (0 ≤ n ∧ n ≤ 18446744073709551615)
def keep64 (n : Int) : Int := if in64 n = true then n else 0
theorem in32_yes {n : Int} (h0 : 0 ≤ n) (h1 : n ≤ 4294967295) : in32 n = true := decide_eq_true ⟨h0, h1⟩
theorem in32_no {n : Int} (h : n < 0 ∨ 4294967295 < n) : in32 n = false := decide_eq_false (by omega)
theorem in64_yes {n : Int} (h0 : 0 ≤ n) (h1 : n ≤ 18446744073709551615) : in64 n = true := decide_eq_true ⟨h0, h1⟩
theorem in64_no {n : Int} (h : n < 0 ∨ 18446744073709551615 < n) : in64 n = false := decide_eq_false (by omega)
theorem keep32_yes {n : Int} (h0 : 0 ≤ n) (h1 : n ≤ 4294967295) : keep32 n = n := if_pos (in32_yes h0 h1)
theorem keep32_no {n : Int} (h : n < 0 ∨ 4294967295 < n) : keep32 n = 0 := if_neg (by rw [in32_no h]; exact Bool.noConfusion)
theorem keep64_yes {n : Int} (h0 : 0 ≤ n) (h1 : n ≤ 18446744073709551615) : keep64 n = n := if_pos (in64_yes h0 h1)
theorem keep64_no {n : Int} (h : n < 0 ∨ 18446744073709551615 < n) : keep64 n = 0 := if_neg (by rw [in64_no h]; exact Bool.noConfusion)
theorem keep32_bd (n : Int) : 0 ≤ keep32 n ∧ keep32 n ≤ 4294967295 := by
  by_cases h : 0 ≤ n ∧ n ≤ 4294967295
  · rw [keep32_yes h.1 h.2]; exact h
  · rw [keep32_no (by omega)]; omega
/-- A product fits where one factor is at most what the other one leaves. -/
theorem mul_quo {a b : Int} (hb : 1 ≤ b) : 4294967295 / b < a ↔ 4294967295 < a * b := by
  constructor
  · intro h; have := (Int.ediv_lt_iff_lt_mul (by omega : 0 < b)).1 h; exact this
  · intro h; exact (Int.ediv_lt_iff_lt_mul (by omega : 0 < b)).2 h
end Go.Proofs.Ytbbmjjphkmjnbaa.Num
