/-
  RingFades, walked: the further off a sub-window, the fewer blocks are ahead of it. Over this seat's translation.
-/
import Derived.Test.YtbbmjjphkmjnbaaRingLaws
namespace Go.Proofs.Ytbbmjjphkmjnbaa.Rg
open Go.ChangeShapes Go.WideShapes Go.ChangeAt Go.RowKit Go.Proofs.Ytbbmjjphkmjnbaa.Mem Go.Proofs.Ytbbmjjphkmjnbaa.Bt
set_option linter.unusedVariables false
set_option linter.unusedSimpArgs false

theorem befN_at {L m : Nat} {cs : List Nat} (h : L < m) : befN L cs m = atG L cs ((m : Int) - 1) + atG L cs ((m : Int) - 2) + atG L cs ((m : Int) - 3) + atG L cs ((m : Int) - 4) := by
  unfold befN
  rw [if_neg (by omega), sumc_mvd]
  have e1 : ((m - 1 : Nat) : Int) = (m : Int) - 1 := by omega
  rw [e1, show (m : Int) - 1 - 1 = (m : Int) - 2 by omega, show (m : Int) - 1 - 2 = (m : Int) - 3 by omega, show (m : Int) - 1 - 3 = (m : Int) - 4 by omega]
theorem befN_next {L : Nat} {cs : List Nat} (hl : cs.length = 4) : befN L cs (L + 1) = sumc cs := by
  unfold befN
  rw [if_neg (by omega), Nat.add_sub_cancel, mvd_self hl]
theorem befN_less {L m : Nat} {cs : List Nat} (h : L < m) : befN L cs (m + 1) ≤ befN L cs m := by
  rw [befN_at h, befN_at (by omega), atG_out (g := ((m + 1 : Nat) : Int) - 1) (by omega)]
  rw [show ((m + 1 : Nat) : Int) - 2 = (m : Int) - 1 by omega, show ((m + 1 : Nat) : Int) - 3 = (m : Int) - 2 by omega, show ((m + 1 : Nat) : Int) - 4 = (m : Int) - 3 by omega]
  omega
theorem befN_none {L m : Nat} {cs : List Nat} (h : L + 4 < m) : befN L cs m = 0 := by
  rw [befN_at (by omega), atG_out (by omega), atG_out (by omega), atG_out (by omega), atG_out (by omega)]
theorem befN_le {L m : Nat} {cs : List Nat} (hs : Small cs) : befN L cs m ≤ 12 := by
  unfold befN
  split
  · omega
  · exact sumc_small (mvd_small hs)
theorem befE_ok {L m : Nat} (h : L < m) : befE L m = 0 := if_neg (by omega)
structure FdRel (w : World) (L : Nat) (cs : List Nat) (B : Nat) (i n : Value) (wr : World) : Prop where
  ex : ∃ k : Nat, 2 ≤ k ∧ k ≤ 9 ∧ i = .int .u32 (k : Int) ∧ n = .int .u32 (befN L cs (L + k - 1) : Nat)
  row : Row wr B 25 (rcs L cs)
  bel : Below w.heap.size w wr
end Go.Proofs.Ytbbmjjphkmjnbaa.Rg
