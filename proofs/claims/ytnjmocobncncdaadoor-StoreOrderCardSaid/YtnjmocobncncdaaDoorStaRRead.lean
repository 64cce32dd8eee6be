/-
  The contracts of the document's back and Read of layer 9, over this seat's translation.
-/
import Derived.Test.YtnjmocobncncdaaDoorStaMade
import Derived.Test.YtnjmocobncncdaaDoorStaLeaf
import Derived.Test.YtnjmocobncncdaaDoorWinAll
import Derived.Test.YtnjmocobncncdaaDoorStaDo
import Derived.Test.YtnjmocobncncdaaDoorWireRefAll
namespace Go.Proofs.YtnjmocobncncdaaDoor.Sa
open Go.ChangeShapes Go.WideShapes Go.ChangeAt Go.RowKit Go.Proofs.YtnjmocobncncdaaDoor.Mem Go.Proofs.YtnjmocobncncdaaDoor.Bt Go.Proofs.YtnjmocobncncdaaDoor.Wi Go.Proofs.YtnjmocobncncdaaDoor.Tg Go.Proofs.YtnjmocobncncdaaDoor.Rg
open Go.Proofs.YtnjmocobncncdaaDoor.Ep (H32 Dat zh zh_ok num32 dcs dcs_len dcs_one zd zd_ok Has h_len one_app one_num szH)
set_option linter.unusedVariables false
set_option linter.unusedSimpArgs false

def mC (s : Sta) (i n : Nat) : List Value := (List.range' i n).flatMap (fC s)
section
attribute [local irreducible] hashR numR
end
section
variable {w wr wa wb : World} {R F S : Nat} {b : List Nat} {i n : Nat}
end
section
attribute [local irreducible] qs hv nv hashR numR
end
section
attribute [local irreducible] qs hv nv hashR numR staR endR
end
end Go.Proofs.YtnjmocobncncdaaDoor.Sa
