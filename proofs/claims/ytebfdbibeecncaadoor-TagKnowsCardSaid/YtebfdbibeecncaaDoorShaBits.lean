/-
  Plain facts for the digest's numbers: bits, turns, bounds. No program, no world.
-/
import Derived.WalkKit
import Derived.PlainAid
import Derived.Test.YtebfdbibeecncaaDoorNumPlain
import Derived.Test.YtebfdbibeecncaaDoorShaSpec
namespace Go.Proofs.YtebfdbibeecncaaDoor.Sha
open Go.RowKit Go.Proofs.YtebfdbibeecncaaDoor.Num
set_option linter.unusedVariables false

theorem turn_rotr (n k : Nat) (hk : k ≤ 31) : rotN k (n : Int) = ((rotr k n : Nat) : Int) := rotN_closed k (by omega) n
theorem rotr_lt (n k : Nat) (hk : k ≤ 32) (hn : n < 4294967296) : rotr k n < 4294967296 := by
  have h := rotN_bd k (n : Int) (by omega) (by omega)
  rw [rotN_closed k hk n] at h
  unfold rotr
  omega
theorem xor_lt {a b : Nat} (ha : a < 4294967296) (hb : b < 4294967296) : a ^^^ b < 4294967296 := Nat.xor_lt_two_pow (n := 32) ha hb
theorem or_lt {a b : Nat} (ha : a < 4294967296) (hb : b < 4294967296) : a ||| b < 4294967296 := Nat.or_lt_two_pow (n := 32) ha hb
theorem and_lt {a b : Nat} (ha : a < 4294967296) : a &&& b < 4294967296 := Nat.lt_of_le_of_lt Nat.and_le_left ha
theorem sm0_lt {x : Nat} (h : x < 4294967296) : sm0 x < 4294967296 := xor_lt (xor_lt (rotr_lt x 7 (by omega) h) (rotr_lt x 18 (by omega) h)) (by omega)
theorem sm1_lt {x : Nat} (h : x < 4294967296) : sm1 x < 4294967296 := xor_lt (xor_lt (rotr_lt x 17 (by omega) h) (rotr_lt x 19 (by omega) h)) (by omega)
theorem bg0_lt {x : Nat} (h : x < 4294967296) : bg0 x < 4294967296 := xor_lt (xor_lt (rotr_lt x 2 (by omega) h) (rotr_lt x 13 (by omega) h)) (rotr_lt x 22 (by omega) h)
theorem bg1_lt {x : Nat} (h : x < 4294967296) : bg1 x < 4294967296 := xor_lt (xor_lt (rotr_lt x 6 (by omega) h) (rotr_lt x 11 (by omega) h)) (rotr_lt x 25 (by omega) h)
theorem chs_lt {x y z : Nat} (hx : x < 4294967296) : chs x y z < 4294967296 := or_lt (and_lt hx) (and_lt (by omega))
theorem mjr_lt {x y z : Nat} (hx : x < 4294967296) (hy : y < 4294967296) : mjr x y z < 4294967296 := or_lt (or_lt (and_lt hx) (and_lt hx)) (and_lt hy)
theorem not_plain (n : Nat) (h : n < 4294967296) : bits BinOp.xor IntKind.u32 4294967295 (n : Int) = ((4294967295 - n : Nat) : Int) := by
  have e := u32_xor_nat 4294967295 n (by omega) h
  rw [show ((4294967295 : Nat) : Int) = 4294967295 from rfl] at e
  rw [e, show (4294967295 : Nat) = 2 ^ 32 - 1 from rfl]
  congr 1
  have h1 : n = (BitVec.ofNat 32 n).toNat := by simp; omega
  have h2 : (~~~ (BitVec.ofNat 32 n)).toNat = 2 ^ 32 - 1 - (BitVec.ofNat 32 n).toNat := BitVec.toNat_not
  have h3 : (BitVec.allOnes 32 ^^^ BitVec.ofNat 32 n) = ~~~ (BitVec.ofNat 32 n) := BitVec.allOnes_xor
  have h4 : (BitVec.allOnes 32 ^^^ BitVec.ofNat 32 n).toNat = (2 ^ 32 - 1) ^^^ (BitVec.ofNat 32 n).toNat := by rw [BitVec.toNat_xor, BitVec.toNat_allOnes]
  rw [h3, h2, ← h1] at h4
  exact h4.symm
/-- Bits of y where x has a one, bits of z where it has none: no place has both. -/
theorem chs_add (x y z : Nat) (hx : x < 4294967296) (hy : y < 4294967296) (hz : z < 4294967296) : (x &&& y) + ((4294967295 - x) &&& z) = chs x y z := by
  have e1 : x = (BitVec.ofNat 32 x).toNat := by simp; omega
  have e2 : y = (BitVec.ofNat 32 y).toNat := by simp; omega
  have e3 : z = (BitVec.ofNat 32 z).toNat := by simp; omega
  have e4 : 4294967295 - x = (~~~ (BitVec.ofNat 32 x)).toNat := by rw [BitVec.toNat_not]; omega
  generalize hX : BitVec.ofNat 32 x = X at *
  generalize hY : BitVec.ofNat 32 y = Y at *
  generalize hZ : BitVec.ofNat 32 z = Z at *
  have hd : (X &&& Y) &&& (~~~ X &&& Z) = 0#32 := by
    ext i hi
    simp
    intro h1 _ h2
    simp [h1] at h2
  have ha := BitVec.add_eq_or_of_and_eq_zero (X &&& Y) (~~~ X &&& Z) hd
  have hc : chs x y z = ((X &&& Y) ||| (~~~ X &&& Z)).toNat := by
    unfold chs
    rw [e4, BitVec.toNat_or, BitVec.toNat_and, BitVec.toNat_and, ← e1, ← e2, ← e3]
  rw [hc, ← ha, BitVec.toNat_add, BitVec.toNat_and, BitVec.toNat_and, ← e1, ← e2, ← e3, ← e4]
  have hl : ((X &&& Y) ||| (~~~ X &&& Z)).toNat < 2 ^ 32 := BitVec.isLt _
  have hle : (x &&& y) + ((4294967295 - x) &&& z) < 2 ^ 32 := by
    have h1 : x &&& y ≤ x := Nat.and_le_left
    have h2 : (4294967295 - x) &&& z ≤ 4294967295 - x := Nat.and_le_left
    omega
  exact (Nat.mod_eq_of_lt hle).symm
/-- Four bytes put together by shifts and 'or'. -/
theorem or_be (hi lo k : Nat) (h : lo < 2 ^ k) : (hi * 2 ^ k) ||| lo = hi * 2 ^ k + lo := by
  rw [Nat.mul_comm, ← Nat.two_pow_add_eq_or_of_lt h]
theorem be4_or (a b c d : Nat) (ha : a < 256) (hb : b < 256) (hc : c < 256) (hd : d < 256) : (((a * 16777216) ||| (b * 65536)) ||| (c * 256)) ||| d = be4 a b c d := by
  have e1 : (a * 16777216) ||| (b * 65536) = (a * 256 + b) * 65536 := by
    rw [show a * 16777216 = a * 2 ^ 24 from rfl, or_be a (b * 65536) 24 (by omega)]; omega
  have e2 : ((a * 256 + b) * 65536) ||| (c * 256) = ((a * 256 + b) * 256 + c) * 256 := by
    rw [show (a * 256 + b) * 65536 = (a * 256 + b) * 2 ^ 16 from rfl, or_be _ (c * 256) 16 (by omega)]; omega
  have e3 : (((a * 256 + b) * 256 + c) * 256) ||| d = ((a * 256 + b) * 256 + c) * 256 + d := by
    rw [show ((a * 256 + b) * 256 + c) * 256 = ((a * 256 + b) * 256 + c) * 2 ^ 8 from rfl, or_be _ d 8 (by omega)]
  rw [e1, e2, e3]; unfold be4; omega
theorem be4_lt {a b c d : Nat} (ha : a < 256) (hb : b < 256) (hc : c < 256) (hd : d < 256) : be4 a b c d < 4294967296 := by unfold be4; omega
end Go.Proofs.YtebfdbibeecncaaDoor.Sha
