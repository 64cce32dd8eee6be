import Derived.Test.YtnjmocobncncdaaDoorBytAll
import Derived.Test.YtnjmocobncncdaaDoorMemAll
import Derived.Lib.SliceRun
import Derived.Laws.StructEq
import Derived.Test.YtnjmocobncncdaaDoorNumAll
/-
  Rings as cells: a number and four counts; smaller and larger of two numbers; 'clear' of a slice; '==' between rings; a sub-window's ring place (package slot). Over this seat's translation.
-/
namespace Go.Proofs.YtnjmocobncncdaaDoor.Rg
open Go.ChangeShapes Go.WideShapes Go.ChangeAt Go.RowKit Go.Proofs.YtnjmocobncncdaaDoor.Mem Go.Proofs.YtnjmocobncncdaaDoor.Bt
set_option linter.unusedVariables false
set_option maxRecDepth 100000

/-- A ring's cells. -/
def rcs (L : Nat) (cs : List Nat) : List Value := .int .u32 (L : Int) :: u32s cs
theorem rcs_len {L : Nat} {cs : List Nat} (h : cs.length = 4) : (rcs L cs).length = 5 := by unfold rcs; rw [List.length_cons, u32s_length, h]
theorem rcs_one (L : Nat) (cs : List Nat) : OneCells (rcs L cs) := by
  intro v hv
  unfold rcs at hv
  rcases List.mem_cons.1 hv with rfl | hv
  · rfl
  · exact u32s_one _ v hv
theorem four {cs : List Nat} (h : cs.length = 4) : ∃ a b c d, cs = [a, b, c, d] := by
  match cs, h with
  | [a, b, c, d], _ => exact ⟨a, b, c, d, rfl⟩
section
variable {P : Program} {ops : Array Oper} {rest : List Oper} {o : Oper} {a : Act} {w : World} {Q : Exit → Act → World → Prop}
end

theorem getD_ext {xs ys : List Nat} (h : xs.length = ys.length) (hg : ∀ i, i < xs.length → xs.getD i 0 = ys.getD i 0) : xs = ys := by
  apply List.ext_getElem h
  intro i h1 h2
  have := hg i h1
  rwa [List.getD_eq_getElem?_getD, List.getD_eq_getElem?_getD, List.getElem?_eq_getElem h1, List.getElem?_eq_getElem h2] at this
section
variable {o : Oper} {a : Act}
end

end Go.Proofs.YtnjmocobncncdaaDoor.Rg

/-
  What a ring tells, over numbers and lists: how many blocks a sub-window has, the ring as of a later sub-window, with one block more; which rings are right.
-/
namespace Go.Proofs.YtnjmocobncncdaaDoor.Rg
open Go.Proofs.YtnjmocobncncdaaDoor.Mem Go.Proofs.YtnjmocobncncdaaDoor.Bt
set_option linter.unusedVariables false

/-- How many blocks a ring tells of a sub-window. -/
def atG (L : Nat) (cs : List Nat) (g : Int) : Nat := if (L : Int) - 4 < g ∧ g ≤ (L : Int) then cs.getD (g % 4).toNat 0 else 0
/-- The latest sub-window of a ring place that isn't behind s. -/
def lat (s : Int) (p : Nat) : Int := s - (s - (p : Int)) % 4
/-- The counts as of a later sub-window, if no block comes up to there. -/
def mvd (L : Nat) (cs : List Nat) (s : Nat) : List Nat := [atG L cs (lat s 0), atG L cs (lat s 1), atG L cs (lat s 2), atG L cs (lat s 3)]
/-- The four counts together. -/
def sumc (cs : List Nat) : Nat := cs.getD 0 0 + cs.getD 1 0 + cs.getD 2 0 + cs.getD 3 0
/-- No count is above three. -/
def Small (cs : List Nat) : Prop := ∀ i, i < 4 → cs.getD i 0 ≤ 3
/-- A ring that may be. -/
def Rt (L : Nat) (cs : List Nat) : Prop := Small cs ∧ 1 ≤ cs.getD (L % 4) 0
instance (cs : List Nat) : Decidable (Small cs) := by unfold Small; exact inferInstance
instance (L : Nat) (cs : List Nat) : Decidable (Rt L cs) := by unfold Rt; exact inferInstance
/-- The counts with one block more in sub-window s. -/
def putd (L : Nat) (cs : List Nat) (s : Nat) : List Nat := (mvd L cs s).set (s % 4) (atG L cs s + 1)
end Go.Proofs.YtnjmocobncncdaaDoor.Rg

/-
  The contracts of package ring's functions over this seat's translation.
-/
namespace Go.Proofs.YtnjmocobncncdaaDoor.Rg
open Go.ChangeShapes Go.WideShapes Go.ChangeAt Go.RowKit Go.Proofs.YtnjmocobncncdaaDoor.Mem Go.Proofs.YtnjmocobncncdaaDoor.Bt
set_option linter.unusedVariables false
set_option linter.unusedSimpArgs false

end Go.Proofs.YtnjmocobncncdaaDoor.Rg

/-
  The contracts of package ring's Sum, Before and Put over this seat's translation.
-/
namespace Go.Proofs.YtnjmocobncncdaaDoor.Rg
open Go.ChangeShapes Go.WideShapes Go.ChangeAt Go.RowKit Go.Proofs.YtnjmocobncncdaaDoor.Mem Go.Proofs.YtnjmocobncncdaaDoor.Bt
set_option linter.unusedVariables false
set_option linter.unusedSimpArgs false

/-- The first k counts together. -/
def ps (k : Nat) (cs : List Nat) : Nat := (cs.take k).sum
structure SmRel (w : World) (L : Nat) (cs : List Nat) (B : Nat) (i s : Value) (wr : World) : Prop where
  ex : ∃ k : Nat, k ≤ 4 ∧ i = .int .i64 k ∧ s = .int .u32 (ps k cs : Nat)
  bel : Below w.heap.size w wr
/-- How many blocks are ahead, and why not. -/
def befN (L : Nat) (cs : List Nat) (sub : Nat) : Nat := if sub ≤ L then 0 else sumc (mvd L cs (sub - 1))
end Go.Proofs.YtnjmocobncncdaaDoor.Rg

/-
  The contracts of the document's answers for rings over this seat's translation.
-/
namespace Go.Proofs.YtnjmocobncncdaaDoor.Rg
open Go.ChangeShapes Go.WideShapes Go.ChangeAt Go.RowKit Go.Proofs.YtnjmocobncncdaaDoor.Mem Go.Proofs.YtnjmocobncncdaaDoor.Bt
set_option linter.unusedVariables false
set_option linter.unusedSimpArgs false

end Go.Proofs.YtnjmocobncncdaaDoor.Rg

/-
  The contract of the document's Put over this seat's translation.
-/
namespace Go.Proofs.YtnjmocobncncdaaDoor.Rg
open Go.ChangeShapes Go.WideShapes Go.ChangeAt Go.RowKit Go.Proofs.YtnjmocobncncdaaDoor.Mem Go.Proofs.YtnjmocobncncdaaDoor.Bt
set_option linter.unusedVariables false
set_option linter.unusedSimpArgs false

end Go.Proofs.YtnjmocobncncdaaDoor.Rg

/-
  Operations of whatever guard, once they are wanted; a struct written out, run; the contract of layer 6's awake over this seat's translation.
-/
namespace Go.Proofs.YtnjmocobncncdaaDoor.Rg
open Go.ChangeShapes Go.WideShapes Go.ChangeAt Go.RowKit Go.Proofs.YtnjmocobncncdaaDoor.Mem Go.Proofs.YtnjmocobncncdaaDoor.Bt
set_option linter.unusedVariables false
set_option linter.unusedSimpArgs false

end Go.Proofs.YtnjmocobncncdaaDoor.Rg

/-
  RingTells, walked: whether any ring may be, how many blocks it has, and any window ahead, and the ring with one block more are as the document says. Over this seat's translation.
-/
namespace Go.Proofs.YtnjmocobncncdaaDoor.Rg
open Go.ChangeShapes Go.WideShapes Go.ChangeAt Go.RowKit Go.Proofs.YtnjmocobncncdaaDoor.Mem Go.Proofs.YtnjmocobncncdaaDoor.Bt
set_option linter.unusedVariables false
set_option linter.unusedSimpArgs false

/-- What Put answers. -/
def putL (L : Nat) (cs : List Nat) (sub : Nat) : Nat := if L ≤ sub ∧ atG L cs sub < 3 then sub else 0
def putC (L : Nat) (cs : List Nat) (sub : Nat) : List Nat := if L ≤ sub ∧ atG L cs sub < 3 then putd L cs sub else [0, 0, 0, 0]
end Go.Proofs.YtnjmocobncncdaaDoor.Rg

/-
  RingFades, walked: the further off a sub-window, the fewer blocks are ahead of it. Over this seat's translation.
-/
namespace Go.Proofs.YtnjmocobncncdaaDoor.Rg
open Go.ChangeShapes Go.WideShapes Go.ChangeAt Go.RowKit Go.Proofs.YtnjmocobncncdaaDoor.Mem Go.Proofs.YtnjmocobncncdaaDoor.Bt
set_option linter.unusedVariables false
set_option linter.unusedSimpArgs false

end Go.Proofs.YtnjmocobncncdaaDoor.Rg

/-
  '!=' between integers and the load of one number, run; the document's Later and Sub over Nat; a slot's sub-window (package slot). Over this seat's translation.
-/
namespace Go.Proofs.YtnjmocobncncdaaDoor.Rg
open Go.ChangeShapes Go.WideShapes Go.ChangeAt Go.RowKit Go.Proofs.YtnjmocobncncdaaDoor.Mem Go.Proofs.YtnjmocobncncdaaDoor.Bt
set_option linter.unusedVariables false
set_option linter.unusedSimpArgs false

end Go.Proofs.YtnjmocobncncdaaDoor.Rg
