/-
  The contract of package state's read, over this seat's translation: all digests of a state are gone through, and read one behind the other.
-/
import Derived.Test.YtnjmocobncncdaaGreatDoorStaBytes
import Derived.Test.YtnjmocobncncdaaGreatDoorWireAll
import Derived.Test.YtnjmocobncncdaaGreatDoorMemAll
namespace Go.Proofs.YtnjmocobncncdaaGreatDoor.Sa
open Go.ChangeShapes Go.WideShapes Go.ChangeAt Go.RowKit Go.Proofs.YtnjmocobncncdaaGreatDoor.Mem Go.Proofs.YtnjmocobncncdaaGreatDoor.Bt Go.Proofs.YtnjmocobncncdaaGreatDoor.Rf Go.Proofs.YtnjmocobncncdaaGreatDoor.Wi
open Go.Proofs.YtnjmocobncncdaaGreatDoor.Tg (Rd Rd.below)
open Go.Proofs.YtnjmocobncncdaaGreatDoor.Ep (H32 Dat zh zh_ok num32 dcs dcs_len dcs_one zd zd_ok Has h_len one_app one_num szH)
set_option linter.unusedVariables false
set_option linter.unusedSimpArgs false
attribute [local go_sem] Oper.semAt_some

/-- Where all that is read lies. -/
structure Lies (w : World) (S0 S R d X : Nat) : Prop where
  n0 : w.heap.size ≤ S0
  s0 : S0 < S
  sr : S < R
  sd : S < d
  rx : R < X
section
variable {w wr wr' : World} {S0 S R d X : Nat} {b : List Nat} {i : Nat}
end
section
variable {w wr wa wb : World} {S0 S R d X : Nat} {b : List Nat} {i : Nat}
end
end Go.Proofs.YtnjmocobncncdaaGreatDoor.Sa
