/-
  The contracts of the document's back and Read of layer 9, over this seat's translation.
-/
import Derived.Test.YtnjmocobncncdaaGreatDoorStaMade
import Derived.Test.YtnjmocobncncdaaGreatDoorStaLeaf
import Derived.Test.YtnjmocobncncdaaGreatDoorWinAll
import Derived.Test.YtnjmocobncncdaaGreatDoorStaDo
import Derived.Test.YtnjmocobncncdaaGreatDoorWireRefAll
namespace Go.Proofs.YtnjmocobncncdaaGreatDoor.Sa
open Go.ChangeShapes Go.WideShapes Go.ChangeAt Go.RowKit Go.Proofs.YtnjmocobncncdaaGreatDoor.Mem Go.Proofs.YtnjmocobncncdaaGreatDoor.Bt Go.Proofs.YtnjmocobncncdaaGreatDoor.Wi Go.Proofs.YtnjmocobncncdaaGreatDoor.Tg Go.Proofs.YtnjmocobncncdaaGreatDoor.Rg
open Go.Proofs.YtnjmocobncncdaaGreatDoor.Ep (H32 Dat zh zh_ok num32 dcs dcs_len dcs_one zd zd_ok Has h_len one_app one_num szH sz_rdat)
set_option linter.unusedVariables false
set_option linter.unusedSimpArgs false

def mC (s : Sta) (i n : Nat) : List Value := (List.range' i n).flatMap (fC s)
section
attribute [local irreducible] hashR numR
end
section
variable {w wr wa wb : World} {R F S : Nat} {b : List Nat} {i n : Nat}
end
section
attribute [local irreducible] qs hv nv hashR numR
end
section
attribute [local irreducible] qs hv nv hashR numR staR endR
end
end Go.Proofs.YtnjmocobncncdaaGreatDoor.Sa
