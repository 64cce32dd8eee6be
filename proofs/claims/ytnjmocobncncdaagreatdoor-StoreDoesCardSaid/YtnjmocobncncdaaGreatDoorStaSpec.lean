/-
  What is written of a state is read; bytes come back; unlike states have unlike bytes: over lists. No program.
-/
import Derived.Test.YtnjmocobncncdaaGreatDoorStaMem
import Derived.Test.YtnjmocobncncdaaGreatDoorWireRefAll
namespace Go.Proofs.YtnjmocobncncdaaGreatDoor.Sa
open Go.RowKit Go.Proofs.YtnjmocobncncdaaGreatDoor.Mem Go.Proofs.YtnjmocobncncdaaGreatDoor.Bt Go.Proofs.YtnjmocobncncdaaGreatDoor.Rg Go.Proofs.YtnjmocobncncdaaGreatDoor.Wi
open Go.Proofs.YtnjmocobncncdaaGreatDoor.Ep (H32 Dat zh zh_ok num32 dcs dcs_len dcs_one zd zd_ok Has h_len one_app one_num szH)
set_option linter.unusedVariables false
set_option linter.unusedSimpArgs false

def bsz (i : Nat) : Nat := if isH i then 32 else 4
def boff : Nat → Nat
  | 0 => 0
  | i + 1 => boff i + bsz i
theorem bP_len {s : Sta} (k : s.Ok) : ∀ i, (bP s i).length = boff i
  | 0 => rfl
  | i + 1 => by unfold bP boff bsz; rw [List.length_append, bP_len k i, fB_len k]
def eB (s : Sta) (i : Nat) : List Nat := (List.range' i (22 - i)).flatMap (fB s)
end Go.Proofs.YtnjmocobncncdaaGreatDoor.Sa
