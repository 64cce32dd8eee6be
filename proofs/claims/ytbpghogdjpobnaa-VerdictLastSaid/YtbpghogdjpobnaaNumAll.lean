import Derived.WalkKit
import Derived.PlainAid
import Derived.Test.YtbpghogdjpobnaaRows
import Derived.ProofKit
import Derived.OpenShut
import Derived.Handy
import Derived.Lib.Hide
import Derived.BigQuiet
/-
  Plain facts about numbers of 32 bits that are turned: no program, no world. Turned by k places is turned by one place, k times; by 32 places it is as it was; shifts and 'or' say the same.
-/
namespace Go.Proofs.Ytbpghogdjpobnaa.Num
open Go.RowKit

end Go.Proofs.Ytbpghogdjpobnaa.Num

/-
  The contracts of package num's functions, and of the document's answers for them, over this seat's translation: what each call returns for every argument, and that nothing that was there changes.
-/
namespace Go.Proofs.Ytbpghogdjpobnaa.Num
open Go.ChangeShapes Go.WideShapes Go.ChangeAt Go.RowKit
set_option linter.unusedVariables false

end Go.Proofs.Ytbpghogdjpobnaa.Num

/-
  The contracts of package slot's functions, and of the document's answers for them: what each call returns for every argument, and that nothing that was there changes.
-/
namespace Go.Proofs.Ytbpghogdjpobnaa.Slot
open Go.ChangeShapes Go.WideShapes Go.ChangeAt Go.RowKit
set_option linter.unusedVariables false

/-- An error's number: OK where it fits, else ErrOver. -/
def over (x : Bool) : Int := if x = true then 0 else 5
end Go.Proofs.Ytbpghogdjpobnaa.Slot
