/-
  The contracts of package state's fits, Right and Genesis, over this seat's translation.
-/
import Derived.Test.YtnjmocobncncdaaGreatDoorStaMem
import Derived.Test.YtnjmocobncncdaaGreatDoorMemAll
import Derived.Test.YtnjmocobncncdaaGreatDoorCmp
import Derived.Test.YtnjmocobncncdaaGreatDoorWinAll
import Derived.Test.YtnjmocobncncdaaGreatDoorRingAll
import Derived.Test.YtnjmocobncncdaaGreatDoorEpoAll
namespace Go.Proofs.YtnjmocobncncdaaGreatDoor.Sa
open Go.ChangeShapes Go.WideShapes Go.ChangeAt Go.RowKit Go.Proofs.YtnjmocobncncdaaGreatDoor.Mem Go.Proofs.YtnjmocobncncdaaGreatDoor.Bt
open Go.Proofs.YtnjmocobncncdaaGreatDoor.Ep (H32 Dat zh zh_ok num32 dcs dcs_len dcs_one zd zd_ok Has h_len one_app one_num szH)
set_option linter.unusedVariables false
set_option linter.unusedSimpArgs false

/-- May there be so many blocks, one at least, up to a slot, or a place? -/
def Fits (a b : Nat) : Prop := 1 ≤ a ∧ a ≤ b + 1
instance (a b : Nat) : Decidable (Fits a b) := by unfold Fits; infer_instance
/-- May a state be? -/
def SRt (s : Sta) : Prop := Wn.WRt s.min s.last s.counts ∧ s.last = s.slot / 3 ∧ Fits s.len s.slot ∧ s.count ≤ s.slot / 24 ∧ s.count < s.len ∧ Fits s.next.len (s.slot % 24) ∧ s.next.len ≤ s.len
instance (s : Sta) : Decidable (SRt s) := by unfold SRt; infer_instance
section
variable {s : Sta}
theorem sc_slot (k : s.Ok) : (scs s)[96]? = some (num32 s.slot) := (s_num k (i := 3) (by omega) rfl).get
theorem sc_len (k : s.Ok) : (scs s)[97]? = some (num32 s.len) := (s_num k (i := 4) (by omega) rfl).get
theorem sc_count (k : s.Ok) : (scs s)[98]? = some (num32 s.count) := (s_num k (i := 5) (by omega) rfl).get
theorem sc_min (k : s.Ok) : (scs s)[99]? = some (num32 s.min) := (s_num k (i := 6) (by omega) rfl).get
end
end Go.Proofs.YtnjmocobncncdaaGreatDoor.Sa
