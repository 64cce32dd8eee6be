import Derived.Test.YtnjmocobncncdaaDoorRingAll
import Derived.Deep.DeepCutAuto
/-
  Window states as cells: a number and a ring; what puts a block (a ring and a slot); '==' between window states. Over this seat's translation.
-/
namespace Go.Proofs.YtnjmocobncncdaaDoor.Wn
open Go.ChangeShapes Go.WideShapes Go.ChangeAt Go.RowKit Go.Proofs.YtnjmocobncncdaaDoor.Mem Go.Proofs.YtnjmocobncncdaaDoor.Bt Go.Proofs.YtnjmocobncncdaaDoor.Rg
set_option linter.unusedVariables false
set_option linter.unusedSimpArgs false

/-- A window state's cells. -/
def wcs (M L : Nat) (cs : List Nat) : List Value := .int .u32 (M : Int) :: rcs L cs
theorem wcs_len {M L : Nat} {cs : List Nat} (h : cs.length = 4) : (wcs M L cs).length = 6 := by unfold wcs; rw [List.length_cons, rcs_len h]
theorem wcs_one (M L : Nat) (cs : List Nat) : OneCells (wcs M L cs) := by
  intro v hv
  unfold wcs at hv
  rcases List.mem_cons.1 hv with rfl | hv
  · rfl
  · exact rcs_one _ _ v hv
/-- The cells of what puts a block. -/
def pcs (L : Nat) (cs : List Nat) (s : Nat) : List Value := rcs L cs ++ [.int .u32 (s : Int)]
theorem pcs_len {L s : Nat} {cs : List Nat} (h : cs.length = 4) : (pcs L cs s).length = 6 := by unfold pcs; rw [List.length_append, rcs_len h]; rfl
theorem pcs_one (L s : Nat) (cs : List Nat) : OneCells (pcs L cs s) := by
  intro v hv
  unfold pcs at hv
  rcases List.mem_append.1 hv with hv | hv
  · exact rcs_one _ _ v hv
  · rw [List.mem_singleton.1 hv]; rfl
section
variable {o : Oper} {a : Act}
end

/-- A window state that may be. -/
def WRt (M L : Nat) (cs : List Nat) : Prop := M ≤ 12 ∧ Rt L cs
instance (M L : Nat) (cs : List Nat) : Decidable (WRt M L cs) := by unfold WRt; exact inferInstance
/-- The least density as of a slot. -/
def relN (M L : Nat) (cs : List Nat) (s : Nat) : Nat := if s < 12 ∨ s / 3 ≤ L then M else min M (befN L cs (s / 3))
/-- Min, with one block more. -/
def putM (M L : Nat) (cs : List Nat) (s : Nat) : Nat := if L ≤ s / 3 ∧ atG L cs ((s / 3 : Nat) : Int) < 3 then relN M L cs s else 0
end Go.Proofs.YtnjmocobncncdaaDoor.Wn

/-
  The contracts of package window's leaves: Genesis, Right, and what tells of a block that was put. Over this seat's translation.
-/
namespace Go.Proofs.YtnjmocobncncdaaDoor.Wn
open Go.ChangeShapes Go.WideShapes Go.ChangeAt Go.RowKit Go.Proofs.YtnjmocobncncdaaDoor.Mem Go.Proofs.YtnjmocobncncdaaDoor.Bt Go.Proofs.YtnjmocobncncdaaDoor.Rg
set_option linter.unusedVariables false
set_option linter.unusedSimpArgs false

end Go.Proofs.YtnjmocobncncdaaDoor.Wn

/-
  The contract of what puts a block into the ring that it embeds. Over this seat's translation.
-/
namespace Go.Proofs.YtnjmocobncncdaaDoor.Wn
open Go.ChangeShapes Go.WideShapes Go.ChangeAt Go.RowKit Go.Proofs.YtnjmocobncncdaaDoor.Mem Go.Proofs.YtnjmocobncncdaaDoor.Bt Go.Proofs.YtnjmocobncncdaaDoor.Rg
set_option linter.unusedVariables false
set_option linter.unusedSimpArgs false

end Go.Proofs.YtnjmocobncncdaaDoor.Wn

/-
  The contracts of package window's Put and Relative. Over this seat's translation.
-/
namespace Go.Proofs.YtnjmocobncncdaaDoor.Wn
open Go.ChangeShapes Go.WideShapes Go.ChangeAt Go.RowKit Go.Proofs.YtnjmocobncncdaaDoor.Mem Go.Proofs.YtnjmocobncncdaaDoor.Bt Go.Proofs.YtnjmocobncncdaaDoor.Rg
set_option linter.unusedVariables false
set_option linter.unusedSimpArgs false

end Go.Proofs.YtnjmocobncncdaaDoor.Wn

/-
  The contracts of the document's Relative and Put for window states. Over this seat's translation.
-/
namespace Go.Proofs.YtnjmocobncncdaaDoor.Wn
open Go.ChangeShapes Go.WideShapes Go.ChangeAt Go.RowKit Go.Proofs.YtnjmocobncncdaaDoor.Mem Go.Proofs.YtnjmocobncncdaaDoor.Bt Go.Proofs.YtnjmocobncncdaaDoor.Rg
set_option linter.unusedVariables false
set_option linter.unusedSimpArgs false

end Go.Proofs.YtnjmocobncncdaaDoor.Wn
