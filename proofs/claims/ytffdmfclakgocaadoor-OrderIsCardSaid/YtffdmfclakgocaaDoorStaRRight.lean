/-
  The contract of the document's Right of layer 9, over this seat's translation.
-/
import Derived.Test.YtffdmfclakgocaaDoorStaLeaf
import Derived.Test.YtffdmfclakgocaaDoorWinAll
namespace Go.Proofs.YtffdmfclakgocaaDoor.Sa
open Go.ChangeShapes Go.WideShapes Go.ChangeAt Go.RowKit Go.Proofs.YtffdmfclakgocaaDoor.Mem Go.Proofs.YtffdmfclakgocaaDoor.Bt
open Go.Proofs.YtffdmfclakgocaaDoor.Ep (H32 Dat zh zh_ok num32 dcs dcs_len dcs_one zd zd_ok Has h_len one_app one_num szH)
set_option linter.unusedVariables false
set_option linter.unusedSimpArgs false

end Go.Proofs.YtffdmfclakgocaaDoor.Sa
