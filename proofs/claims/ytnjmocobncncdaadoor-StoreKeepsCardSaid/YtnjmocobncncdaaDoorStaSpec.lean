/-
  What is written of a state is read; bytes come back; unlike states have unlike bytes: over lists. No program.
-/
import Derived.Test.YtnjmocobncncdaaDoorStaMem
import Derived.Test.YtnjmocobncncdaaDoorWireRefAll
namespace Go.Proofs.YtnjmocobncncdaaDoor.Sa
open Go.RowKit Go.Proofs.YtnjmocobncncdaaDoor.Mem Go.Proofs.YtnjmocobncncdaaDoor.Bt Go.Proofs.YtnjmocobncncdaaDoor.Rg Go.Proofs.YtnjmocobncncdaaDoor.Wi
open Go.Proofs.YtnjmocobncncdaaDoor.Ep (H32 Dat zh zh_ok num32 dcs dcs_len dcs_one zd zd_ok Has h_len one_app one_num szH)
set_option linter.unusedVariables false
set_option linter.unusedSimpArgs false

def eB (s : Sta) (i : Nat) : List Nat := (List.range' i (22 - i)).flatMap (fB s)
end Go.Proofs.YtnjmocobncncdaaDoor.Sa
