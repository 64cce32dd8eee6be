import Derived.Test.YtghogoijjaiccaaShaAll
import Derived.Test.YtghogoijjaiccaaMemAll
/-
  The contracts of the document's answers for turned numbers and for xor, over this seat's translation.
-/
namespace Go.Proofs.Ytghogoijjaiccaa.Sha
open Go.ChangeShapes Go.WideShapes Go.ChangeAt Go.RowKit Go.Proofs.Ytghogoijjaiccaa.Num Go.Proofs.Ytghogoijjaiccaa.Mem Go.Proofs.Ytghogoijjaiccaa.Bt
set_option linter.unusedVariables false

end Go.Proofs.Ytghogoijjaiccaa.Sha

/-
  The contract of the document's answer for one block (block), over this seat's translation: the eight numbers behind it.
-/
namespace Go.Proofs.Ytghogoijjaiccaa.Sha
open Go.ChangeShapes Go.WideShapes Go.ChangeAt Go.RowKit Go.Proofs.Ytghogoijjaiccaa.Num Go.Proofs.Ytghogoijjaiccaa.Mem Go.Proofs.Ytghogoijjaiccaa.Bt
set_option linter.unusedVariables false

/-- The zeros of a composite value. -/
def zW : List Value := u32s (List.replicate 64 0)
end Go.Proofs.Ytghogoijjaiccaa.Sha

/-
  The contract of the document's Padded (the bytes, and what stands behind them), over this seat's translation.
-/
namespace Go.Proofs.Ytghogoijjaiccaa.Sha
open Go.ChangeShapes Go.WideShapes Go.ChangeAt Go.RowKit Go.Proofs.Ytghogoijjaiccaa.Num Go.Proofs.Ytghogoijjaiccaa.Mem Go.Proofs.Ytghogoijjaiccaa.Bt
set_option linter.unusedVariables false

end Go.Proofs.Ytghogoijjaiccaa.Sha

/-
  The contract of the document's Of (the digest), over this seat's translation.
-/
namespace Go.Proofs.Ytghogoijjaiccaa.Sha
open Go.ChangeShapes Go.WideShapes Go.ChangeAt Go.RowKit Go.Proofs.Ytghogoijjaiccaa.Num Go.Proofs.Ytghogoijjaiccaa.Mem Go.Proofs.Ytghogoijjaiccaa.Bt
set_option linter.unusedVariables false

end Go.Proofs.Ytghogoijjaiccaa.Sha
