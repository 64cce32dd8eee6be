import Derived.WalkKit
import Derived.PlainAid
import Derived.Test.YtaihhbiocolhcaaDoorRows
import Derived.ProofKit
import Derived.OpenShut
import Derived.Handy
import Derived.Lib.Hide
import Derived.BigQuiet
/-
  Plain facts about numbers of 32 bits that are turned: no program, no world. Turned by k places is turned by one place, k times; by 32 places it is as it was; shifts and 'or' say the same.
-/
namespace Go.Proofs.YtaihhbiocolhcaaDoor.Num
open Go.RowKit

/-- Turned to the right by one place. -/
def rot1 (n : Int) : Int := n / 2 + 2147483648 * (n % 2)
/-- Turned to the right by k places, one by one. -/
def rotN : Nat → Int → Int
  | 0, n => n
  | k + 1, n => rot1 (rotN k n)

theorem rot1_bd (n : Int) (h0 : 0 ≤ n) (h1 : n ≤ 4294967295) : 0 ≤ rot1 n ∧ rot1 n ≤ 4294967295 := by unfold rot1; omega
theorem rotN_bd (k : Nat) (n : Int) (h0 : 0 ≤ n) (h1 : n ≤ 4294967295) : 0 ≤ rotN k n ∧ rotN k n ≤ 4294967295 := by
  induction k with
  | zero => exact ⟨h0, h1⟩
  | succ k ih => exact rot1_bd _ ih.1 ih.2
theorem rotN_add (j k : Nat) (n : Int) : rotN (j + k) n = rotN j (rotN k n) := by
  induction j with
  | zero => rw [Nat.zero_add]; rfl
  | succ j ih => rw [Nat.succ_add]; show rot1 (rotN (j + k) n) = rot1 (rotN j (rotN k n)); rw [ih]

/-- The closed form, over natural numbers. -/
theorem pow_split (k : Nat) (h : k ≤ 32) : 2 ^ (32 - k) * 2 ^ k = 4294967296 := by
  rw [← Nat.pow_add]; rw [Nat.sub_add_cancel h]
theorem step_plain (n P Q : Nat) (hPQ : Q * P = 2147483648) :
    (n / P + n % P * (2 * Q)) / 2 + 2147483648 * ((n / P + n % P * (2 * Q)) % 2) = n / (P * 2) + n % (P * 2) * Q := by
  have e1 : n % (P * 2) = n % P + P * (n / P % 2) := Nat.mod_mul
  have e2 : n / (P * 2) = n / P / 2 := (Nat.div_div_eq_div_mul n P 2).symm
  have e3 : n % P * (2 * Q) = 2 * (n % P * Q) := by rw [Nat.mul_left_comm]
  have e4 : (n % P + P * (n / P % 2)) * Q = n % P * Q + 2147483648 * (n / P % 2) := by
    rw [Nat.add_mul, ← hPQ, Nat.mul_comm P, Nat.mul_assoc, Nat.mul_comm P Q, Nat.mul_comm (n / P % 2)]
  rw [e1, e2, e3, e4]
  generalize n % P * Q = x
  generalize n / P = y
  omega
theorem rotN_closed (k : Nat) (hk : k ≤ 32) (n : Nat) : rotN k (n : Int) = ((n / 2 ^ k + n % 2 ^ k * 2 ^ (32 - k) : Nat) : Int) := by
  induction k with
  | zero => show (n : Int) = _; simp
  | succ k ih =>
    have hQ : 2 ^ (32 - (k + 1)) * 2 ^ k = 2147483648 := by
      rw [← Nat.pow_add, show 32 - (k + 1) + k = 31 from by omega]
    have h2 : 2 ^ (32 - k) = 2 * 2 ^ (32 - (k + 1)) := by
      rw [show 32 - k = (32 - (k + 1)) + 1 from by omega, Nat.pow_succ, Nat.mul_comm]
    show rot1 (rotN k n) = _
    rw [ih (by omega), h2, Nat.pow_succ, ← step_plain n (2 ^ k) _ hQ]
    generalize n / 2 ^ k + n % 2 ^ k * (2 * 2 ^ (32 - (k + 1))) = m
    unfold rot1
    omega
theorem rotN_32 (a : Int) (h0 : 0 ≤ a) (h1 : a ≤ 4294967295) : rotN 32 a = a := by
  obtain ⟨n, rfl⟩ := Int.eq_ofNat_of_zero_le h0
  rw [rotN_closed 32 (by omega)]
  simp only [Nat.sub_self, Nat.pow_zero, Nat.mul_one]
  omega
/-- Whatever the number of places: those that are left of it by 32. -/
theorem rotN_mod (k : Nat) (a : Int) (h0 : 0 ≤ a) (h1 : a ≤ 4294967295) : rotN k a = rotN (k % 32) a := by
  have : ∀ q r : Nat, rotN (32 * q + r) a = rotN r a := by
    intro q r
    induction q with
    | zero => rw [Nat.mul_zero, Nat.zero_add]
    | succ q ih =>
      rw [show 32 * (q + 1) + r = 32 + (32 * q + r) from by omega, rotN_add, ih]
      exact rotN_32 _ (rotN_bd _ _ h0 h1).1 (rotN_bd _ _ h0 h1).2
  have e := this (k / 32) (k % 32)
  rw [Nat.div_add_mod] at e
  exact e

theorem or_plain (n k : Nat) (hk : k ≤ 31) (hn : n < 4294967296) : (n / 2 ^ k) ||| (n * 2 ^ (32 - k) % 4294967296) = n / 2 ^ k + n % 2 ^ k * 2 ^ (32 - k) := by
  have e : n * 2 ^ (32 - k) % 4294967296 = 2 ^ (32 - k) * (n % 2 ^ k) := by
    rw [← pow_split k (by omega), Nat.mul_comm n, Nat.mul_mod_mul_left]
  have hlt : n / 2 ^ k < 2 ^ (32 - k) := by
    apply Nat.div_lt_of_lt_mul
    rw [Nat.mul_comm, pow_split k (by omega)]
    exact hn
  rw [e, Nat.or_comm, ← Nat.two_pow_add_eq_or_of_lt hlt, Nat.mul_comm, Nat.add_comm]

/-- Shifted to the right by k, or shifted to the left by what is left of 32: turned by k. -/
theorem turn_plain (a : Int) (k : Nat) (hk : k ≤ 31) (h0 : 0 ≤ a) (h1 : a ≤ 4294967295) :
    bits BinOp.or IntKind.u32 (a / 2 ^ k) (a * 2 ^ (32 - k) % 4294967296) = rotN k a := by
  obtain ⟨n, rfl⟩ := Int.eq_ofNat_of_zero_le h0
  have e1 : ((n : Int) / 2 ^ k) = ((n / 2 ^ k : Nat) : Int) := by simp
  have e2 : ((n : Int) * 2 ^ (32 - k) % 4294967296) = ((n * 2 ^ (32 - k) % 4294967296 : Nat) : Int) := by simp
  have hb : n / 2 ^ k < 4294967296 := Nat.lt_of_le_of_lt (Nat.div_le_self _ _) (by omega)
  have hb2 : n * 2 ^ (32 - k) % 4294967296 < 4294967296 := Nat.mod_lt _ (by omega)
  rw [e1, e2, u32_or_nat _ _ hb hb2, or_plain n k hk (by omega), rotN_closed k (by omega)]

/-- The lowest five bits of a number, of whatever sign. -/
theorem low5 (c : Int) : bits BinOp.and IntKind.u32 (c % 4294967296) 31 = c % 32 := by
  have h := u32_and_nat (c % 4294967296).toNat 31 (by omega) (by omega)
  rw [show (((c % 4294967296).toNat : Nat) : Int) = c % 4294967296 from by omega] at h
  rw [show ((31 : Nat) : Int) = 31 from rfl] at h
  rw [h, show (31 : Nat) = 2 ^ 5 - 1 from rfl, Nat.and_two_pow_sub_one_eq_mod]
  omega
/-- Two halves, one behind the other. -/
theorem join_plain (a b : Int) (h0 : 0 ≤ a) (h1 : a ≤ 4294967295) (h2 : 0 ≤ b) (h3 : b ≤ 4294967295) : bits BinOp.or IntKind.u64 (a * 4294967296) b = a * 4294967296 + b := by
  have h := bits_or_u64_nat (a.toNat * 4294967296) b.toNat (by omega) (by omega)
  rw [show ((a.toNat * 4294967296 : Nat) : Int) = a * 4294967296 from by omega, show ((b.toNat : Nat) : Int) = b from by omega] at h
  rw [h, show a.toNat * 4294967296 = 2 ^ 32 * a.toNat from by omega, ← Nat.two_pow_add_eq_or_of_lt (by omega)]
  omega
/-- What is left by 32, cut towards nought. -/
theorem tmod32 (c : Int) : c.tmod 32 = if 0 ≤ c then c % 32 else -((-c) % 32) := by
  split
  · rename_i h; exact Int.tmod_eq_emod_of_nonneg h
  · rename_i h
    have e := Int.neg_tmod (-c) 32
    rw [Int.neg_neg, Int.tmod_eq_emod_of_nonneg (by omega : 0 ≤ -c)] at e
    exact e
theorem tmod32_bd (c : Int) : -32 < c.tmod 32 ∧ c.tmod 32 < 32 := by rw [tmod32]; split <;> omega
theorem tmod32_mod (c : Int) : (c.tmod 32 + 32) % 32 = c % 32 := by rw [tmod32]; split <;> omega
/-! What fits, and what is answered beside it. -/
/-- A number beside a yes; 0 beside a no. -/
def tell (x : Bool) (n : Int) : Int := if x = true then n else 0
def in32 (n : Int) : Bool := decide (0 ≤ n ∧ n ≤ 4294967295)
def keep32 (n : Int) : Int := if in32 n = true then n else 0
def in64 (n : Int) : Bool := decide (0 ≤ n ∧ n ≤ 18446744073709551615)
def keep64 (n : Int) : Int := if in64 n = true then n else 0
theorem in32_yes {n : Int} (h0 : 0 ≤ n) (h1 : n ≤ 4294967295) : in32 n = true := decide_eq_true ⟨h0, h1⟩
theorem in32_no {n : Int} (h : n < 0 ∨ 4294967295 < n) : in32 n = false := decide_eq_false (by omega)
theorem in64_yes {n : Int} (h0 : 0 ≤ n) (h1 : n ≤ 18446744073709551615) : in64 n = true := decide_eq_true ⟨h0, h1⟩
theorem in64_no {n : Int} (h : n < 0 ∨ 18446744073709551615 < n) : in64 n = false := decide_eq_false (by omega)
theorem keep32_yes {n : Int} (h0 : 0 ≤ n) (h1 : n ≤ 4294967295) : keep32 n = n := if_pos (in32_yes h0 h1)
theorem keep32_no {n : Int} (h : n < 0 ∨ 4294967295 < n) : keep32 n = 0 := if_neg (by rw [in32_no h]; exact Bool.noConfusion)
theorem keep64_yes {n : Int} (h0 : 0 ≤ n) (h1 : n ≤ 18446744073709551615) : keep64 n = n := if_pos (in64_yes h0 h1)
theorem keep64_no {n : Int} (h : n < 0 ∨ 18446744073709551615 < n) : keep64 n = 0 := if_neg (by rw [in64_no h]; exact Bool.noConfusion)
theorem keep32_bd (n : Int) : 0 ≤ keep32 n ∧ keep32 n ≤ 4294967295 := by
  by_cases h : 0 ≤ n ∧ n ≤ 4294967295
  · rw [keep32_yes h.1 h.2]; exact h
  · rw [keep32_no (by omega)]; omega
/-- A product fits where one factor is at most what the other one leaves. -/
theorem mul_quo {a b : Int} (hb : 1 ≤ b) : 4294967295 / b < a ↔ 4294967295 < a * b := by
  constructor
  · intro h; have := (Int.ediv_lt_iff_lt_mul (by omega : 0 < b)).1 h; exact this
  · intro h; exact (Int.ediv_lt_iff_lt_mul (by omega : 0 < b)).2 h
end Go.Proofs.YtaihhbiocolhcaaDoor.Num

/-
  The contracts of package num's functions, and of the document's answers for them, over this seat's translation: what each call returns for every argument, and that nothing that was there changes.
-/
namespace Go.Proofs.YtaihhbiocolhcaaDoor.Num
open Go.ChangeShapes Go.WideShapes Go.ChangeAt Go.RowKit
set_option linter.unusedVariables false

theorem grown_trans {a b c : World} (h : Grown a b) (g : Grown b c) : Grown a c :=
  ⟨World.keptBut_trans h.1 g.1, fun x => (g.2.1 x).trans (h.2.1 x), Nat.le_trans h.2.2 g.2.2⟩
theorem ret_int {k : IntKind} {a b : Int} (h : a = b) : Ending.returned (.int k a) = .returned (.int k b) := by rw [h]

/-! told: the number and true where all of the conditions hold, else 0 and false. -/
theorem turn_any (a c : Int) (w : World) (h0 : 0 ≤ a) (h1 : a ≤ 4294967295) (h2 : -9223372036854775808 ≤ c) (h3 : c ≤ 9223372036854775807) :
    Calls Tryd.prog 80 #[.int .u32 a, .int .i64 c] w fun e w' => e = .returned (.int .u32 (rotN (c % 32).toNat a)) ∧ w = w' := by
  obtain ⟨k, hk⟩ : ∃ k : Nat, (k : Int) = c % 32 := ⟨(c % 32).toNat, by omega⟩
  have hk31 : k ≤ 31 := by omega
  have hr : bits BinOp.and IntKind.u32 (c % 4294967296) 31 = (k : Int) := by rw [low5, hk]
  have HK := Lib.hid hk; clear hk
  go_enter Tryd.func80, Tryd.ntmps80
  go_wp2
  go_ret
  refine ⟨ret_int ?_, rfl⟩
  rw [← HK.out, Int.toNat_natCast]
  rw [← turn_plain a k hk31 h0 h1]
theorem split_any (c : Int) (w : World) (h2 : 0 ≤ c) (h3 : c ≤ 18446744073709551615) :
    Calls Tryd.prog 73 #[.int .u64 c] w fun e w' => e = .returned (.tuple #[.int .u32 (c / 4294967296), .int .u32 (c % 4294967296)]) ∧ w = w' := by
  go_enter Tryd.func73, Tryd.ntmps73
  go_wp2
  go_ret2
  exact ⟨rfl, rfl⟩
/-! The sums, differences and products. -/
theorem ret_two {k : IntKind} {a b : Int} {x y : Bool} (h : a = b) (g : x = y) : Ending.returned (.tuple #[.int k a, .bool x]) = .returned (.tuple #[.int k b, .bool y]) := by rw [h, g]
theorem add32_plain (a b : Int) (h0 : 0 ≤ a) (h1 : a ≤ 4294967295) (h2 : 0 ≤ b) (h3 : b ≤ 4294967295) : (decide (a ≤ (a + b) % 4294967296) && decide (b ≤ (a + b) % 4294967296)) = in32 (a + b) := by
  by_cases h : a + b ≤ 4294967295
  · rw [in32_yes (by omega) h]; simp; omega
  · rw [in32_no (by omega)]; simp; omega
theorem add64_plain (a b : Int) (h0 : 0 ≤ a) (h1 : a ≤ 18446744073709551615) (h2 : 0 ≤ b) (h3 : b ≤ 18446744073709551615) : (decide (a ≤ IntKind.u64.wrap (a + b)) && decide (b ≤ IntKind.u64.wrap (a + b))) = in64 (a + b) := by
  rw [IntKind.wrap_u64]
  by_cases h : a + b ≤ 18446744073709551615
  · rw [in64_yes (by omega) h]; simp; omega
  · rw [in64_no (by omega)]; simp; omega
theorem kept32 {n m : Int} {x : Bool} (hx : x = in32 n) (hm : in32 n = true → m = n) : tell x m = keep32 n := by
  subst hx; unfold keep32 tell; by_cases h : in32 n = true
  · rw [if_pos h, if_pos h, hm h]
  · rw [if_neg h, if_neg h]
theorem kept64 {n m : Int} {x : Bool} (hx : x = in64 n) (hm : in64 n = true → m = n) : tell x m = keep64 n := by
  subst hx; unfold keep64 tell; by_cases h : in64 n = true
  · rw [if_pos h, if_pos h, hm h]
  · rw [if_neg h, if_neg h]
theorem is32 {n : Int} (h : in32 n = true) : 0 ≤ n ∧ n ≤ 4294967295 := of_decide_eq_true h
theorem is64 {n : Int} (h : in64 n = true) : 0 ≤ n ∧ n ≤ 18446744073709551615 := of_decide_eq_true h
theorem sub32_plain (a b : Int) (h1 : a ≤ 4294967295) (h2 : 0 ≤ b) : decide (b ≤ a) = in32 (a - b) := by
  by_cases h : b ≤ a
  · rw [in32_yes (by omega) (by omega)]; simp [h]
  · rw [in32_no (by omega)]; simp [h]
theorem narrow_plain (n : Int) (h0 : 0 ≤ n) : (n / 4294967296 == 0) = in32 n := by
  by_cases h : n ≤ 4294967295
  · rw [in32_yes h0 h]; exact beq_iff_eq.2 (by omega)
  · rw [in32_no (by omega)]; exact beq_eq_false_iff_ne.2 (by omega)
theorem mul_bd (a b : Int) (h0 : 0 ≤ a) (h1 : a ≤ 4294967295) (h2 : 0 ≤ b) (h3 : b ≤ 4294967295) : 0 ≤ a * b ∧ a * b ≤ 18446744073709551615 := by
  have := Int.mul_nonneg h0 h2
  have := Int.mul_le_mul h1 h3 h2 (by omega : (0 : Int) ≤ 4294967295)
  omega
/-! The document's answers. -/
theorem rturn_any (a c : Int) (w : World) (h0 : 0 ≤ a) (h1 : a ≤ 4294967295) (h2 : -9223372036854775808 ≤ c) (h3 : c ≤ 9223372036854775807) :
    Calls Tryd.prog 67 #[.int .u32 a, .int .i64 c] w fun e w' => e = .returned (.int .u32 (rotN (c % 32).toNat a)) ∧ w = w' := by
  obtain ⟨ht0, ht1⟩ := tmod32_bd c
  have he := tmod32_mod c
  obtain ⟨m, hm⟩ : ∃ m : Nat, (m : Int) = c % 32 := ⟨(c % 32).toNat, by omega⟩
  have hm31 : m ≤ 31 := by omega
  rw [← hm, Int.toNat_natCast]
  have hs : (c.tmod 32 + 32) % 32 = (m : Int) := by omega
  clear he hm
  go_enter Tryd.func67, Tryd.ntmps67
  go_wp2
  go_loop [0, 6, 7] (fun n i _ => ∃ k : Nat, k ≤ m ∧ i = .int .i64 k ∧ n = .int .u32 (rotN k a)) (fun _ i _ => m - (intOf i).toNat)
  case atStart => exact ⟨0, Nat.zero_le _, rfl, rfl⟩
  case round =>
    obtain ⟨k, hk, rfl, rfl⟩ := hrel
    obtain ⟨hb0, hb1⟩ := rotN_bd k a h0 h1
    have hs1 : Hid (rotN (k + 1) a = rotN k a / 2 + 2147483648 * (rotN k a % 2)) := Lib.hid rfl
    by_cases hlt : k < m
    · go_wp2
      go_round
      case rel => exact ⟨k + 1, by omega, by go_num, by rw [hs1.out]⟩
      case measure => simp [intOf]; omega
    · obtain rfl : k = m := by omega
      go_wp2
      go_ret
      exact ⟨rfl, rfl⟩
/-! awake: the calls whose answers the document fixes: it returns true. -/
end Go.Proofs.YtaihhbiocolhcaaDoor.Num

/-
  The contracts of package slot's functions, and of the document's answers for them: what each call returns for every argument, and that nothing that was there changes.
-/
namespace Go.Proofs.YtaihhbiocolhcaaDoor.Slot
open Go.ChangeShapes Go.WideShapes Go.ChangeAt Go.RowKit
open Num (in32 keep32 grown_trans ret_int)
set_option linter.unusedVariables false

/-- An error's number: OK where it fits, else ErrOver. -/
def over (x : Bool) : Int := if x = true then 0 else 5
theorem over_yes : over true = 0 := rfl
theorem over_no : over false = 5 := rfl
theorem keep32_no0 {n : Int} (h : in32 n = false) : keep32 n = 0 := by unfold keep32; rw [if_neg (by rw [h]; exact Bool.noConfusion)]
theorem ret_errno {k : IntKind} {a b : Int} {c d : Int} (h : a = b) (g : c = d) : Ending.returned (.tuple #[.int k a, .int .i64 c]) = .returned (.tuple #[.int k b, .int .i64 d]) := by rw [h, g]
theorem ret_bool {a b : Bool} (h : a = b) : Ending.returned (.bool a) = .returned (.bool b) := by rw [h]

/-! The document's answers. -/
end Go.Proofs.YtaihhbiocolhcaaDoor.Slot
