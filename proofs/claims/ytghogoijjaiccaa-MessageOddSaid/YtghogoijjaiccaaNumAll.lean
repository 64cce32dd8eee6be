import Derived.WalkKit
import Derived.PlainAid
import Derived.Test.YtghogoijjaiccaaRows
import Derived.ProofKit
import Derived.OpenShut
import Derived.Handy
import Derived.Lib.Hide
import Derived.BigQuiet
/-
  Plain facts about numbers of 32 bits that are turned: no program, no world. Turned by k places is turned by one place, k times; by 32 places it is as it was; shifts and 'or' say the same.
-/
namespace Go.Proofs.Ytghogoijjaiccaa.Num
open Go.RowKit

end Go.Proofs.Ytghogoijjaiccaa.Num

/-
  The contracts of package num's functions, and of the document's answers for them, over this seat's translation: what each call returns for every argument, and that nothing that was there changes.
-/
namespace Go.Proofs.Ytghogoijjaiccaa.Num
open Go.ChangeShapes Go.WideShapes Go.ChangeAt Go.RowKit
set_option linter.unusedVariables false

theorem ret_int {k : IntKind} {a b : Int} (h : a = b) : Ending.returned (.int k a) = .returned (.int k b) := by rw [h]

end Go.Proofs.Ytghogoijjaiccaa.Num

/-
  The contracts of package slot's functions, and of the document's answers for them: what each call returns for every argument, and that nothing that was there changes.
-/
namespace Go.Proofs.Ytghogoijjaiccaa.Slot
open Go.ChangeShapes Go.WideShapes Go.ChangeAt Go.RowKit
open Num (ret_int)
set_option linter.unusedVariables false

/-- An error's number: OK where it fits, else ErrOver. -/
def over (x : Bool) : Int := if x = true then 0 else 5
theorem repoch_any (a : Int) (w : World) (h0 : 0 ≤ a) (h1 : a ≤ 4294967295) :
    Calls Try.prog 64 #[.int .u32 a] w fun e w' => e = .returned (.int .u32 (a / 24)) ∧ w = w' := by
  go_enter Try.func64, Try.ntmps64
  go_wp2
  go_ret
  exact ⟨rfl, rfl⟩
theorem rplace_any (a : Int) (w : World) (h0 : 0 ≤ a) (h1 : a ≤ 4294967295) :
    Calls Try.prog 65 #[.int .u32 a] w fun e w' => e = .returned (.int .u32 (a % 24)) ∧ w = w' := by
  go_enter Try.func65, Try.ntmps65
  go_wp2_with fail
  refine (repoch_any a _ h0 h1).mono ?_
  rintro e w1 ⟨rfl, rfl⟩
  go_wp2
  go_ret
  exact ⟨ret_int (by omega), rfl⟩
theorem rsub_any (a : Int) (w : World) (h0 : 0 ≤ a) (h1 : a ≤ 4294967295) :
    Calls Try.prog 63 #[.int .u32 a] w fun e w' => e = .returned (.int .u32 (a / 3)) ∧ w = w' := by
  go_enter Try.func63, Try.ntmps63
  go_wp2
  go_ret
  exact ⟨rfl, rfl⟩
end Go.Proofs.Ytghogoijjaiccaa.Slot
