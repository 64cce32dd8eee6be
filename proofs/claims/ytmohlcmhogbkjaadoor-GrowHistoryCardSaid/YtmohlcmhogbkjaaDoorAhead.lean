/-
  What is ahead of a sub-window, by what is counted in a history. Over this seat's translation.
-/
import Derived.Test.YtmohlcmhogbkjaaDoorRingHist
import Derived.Test.YtmohlcmhogbkjaaDoorRingAll
namespace Go.Proofs.YtmohlcmhogbkjaaDoor.Rg
open Go.ChangeShapes Go.WideShapes Go.ChangeAt Go.RowKit Go.Proofs.YtmohlcmhogbkjaaDoor.Mem Go.Proofs.YtmohlcmhogbkjaaDoor.Bt
set_option linter.unusedVariables false
set_option linter.unusedSimpArgs false

/-- What is ahead, by what is counted. -/
def ahd (xs : List Nat) (sub : Nat) : Nat → Nat
  | 0 => 0
  | k + 1 => ahd xs sub k + cnt xs ((sub : Int) - ((k + 1 : Nat) : Int))
theorem cnt_le (xs : List Nat) (g : Int) : cnt xs g ≤ xs.length + 3 := by
  unfold cnt
  split
  · omega
  · have := cntIn_le xs g; omega
theorem ahd_le (xs : List Nat) (sub k : Nat) : ahd xs sub k ≤ k * (xs.length + 3) := by
  induction k with
  | zero => exact Nat.zero_le _
  | succ k ih => unfold ahd; have := cnt_le xs ((sub : Int) - ((k + 1 : Nat) : Int)); rw [Nat.succ_mul]; omega
theorem Hist.ahead {xs : List Nat} {L : Nat} {ds : List Nat} (h : Hist xs L ds) {sub : Nat} (hs : L < sub) : befN L ds sub = ahd xs sub 4 := by
  rw [befN_at hs, h.any (by omega), h.any (by omega), h.any (by omega), h.any (by omega)]
  simp only [ahd]
  rw [Nat.zero_add]
  rfl
end Go.Proofs.YtmohlcmhogbkjaaDoor.Rg
