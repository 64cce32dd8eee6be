/-
  The contracts of package state's fits, Right and Genesis, over this seat's translation.
-/
import Derived.Test.YtnjmocobncncdaaDoorStaMem
import Derived.Test.YtnjmocobncncdaaDoorMemAll
import Derived.Test.YtnjmocobncncdaaDoorCmp
import Derived.Test.YtnjmocobncncdaaDoorWinAll
import Derived.Test.YtnjmocobncncdaaDoorRingAll
import Derived.Test.YtnjmocobncncdaaDoorEpoAll
namespace Go.Proofs.YtnjmocobncncdaaDoor.Sa
open Go.ChangeShapes Go.WideShapes Go.ChangeAt Go.RowKit Go.Proofs.YtnjmocobncncdaaDoor.Mem Go.Proofs.YtnjmocobncncdaaDoor.Bt
open Go.Proofs.YtnjmocobncncdaaDoor.Ep (H32 Dat zh zh_ok num32 dcs dcs_len dcs_one zd zd_ok Has h_len one_app one_num szH)
set_option linter.unusedVariables false
set_option linter.unusedSimpArgs false

/-- May there be so many blocks, one at least, up to a slot, or a place? -/
def Fits (a b : Nat) : Prop := 1 ≤ a ∧ a ≤ b + 1
instance (a b : Nat) : Decidable (Fits a b) := by unfold Fits; infer_instance
/-- May a state be? -/
def SRt (s : Sta) : Prop := Wn.WRt s.min s.last s.counts ∧ s.last = s.slot / 3 ∧ Fits s.len s.slot ∧ s.count ≤ s.slot / 24 ∧ s.count < s.len ∧ Fits s.next.len (s.slot % 24) ∧ s.next.len ≤ s.len
instance (s : Sta) : Decidable (SRt s) := by unfold SRt; infer_instance
section
variable {s : Sta}
end
end Go.Proofs.YtnjmocobncncdaaDoor.Sa
