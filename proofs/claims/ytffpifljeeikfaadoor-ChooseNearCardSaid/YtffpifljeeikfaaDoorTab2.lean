/-
  What the rows' condition gives layer 3's walks: the two tables hold the chapter's sixty-four numbers.
-/
import Derived.Test.YtffpifljeeikfaaDoorTab
namespace Go.Proofs.YtffpifljeeikfaaDoor.Sha
open Go.ChangeShapes Go.WideShapes Go.ChangeAt Go.WideMaps Go.WideElems Go.RowKit Go.Proofs.YtffpifljeeikfaaDoor.Num Go.Proofs.YtffpifljeeikfaaDoor.Mem Go.Proofs.YtffpifljeeikfaaDoor.Bt
set_option linter.unusedVariables false
end Go.Proofs.YtffpifljeeikfaaDoor.Sha
