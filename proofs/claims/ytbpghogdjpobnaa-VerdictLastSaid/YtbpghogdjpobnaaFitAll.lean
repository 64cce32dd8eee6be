import Derived.Test.YtbpghogdjpobnaaMemAll
import Derived.ChangeKeysEq
import Derived.Laws.StructEq
import Derived.ProofKit
import Derived.OpenShut
/-
  '==' and '!=' between values of any type that is compared cell by cell (bools, integers, strings, and arrays and structs of such): true just if their cells are the same. Over whatever program.
-/
namespace Go.Proofs.Ytbpghogdjpobnaa.Mem
open Go.RowKit
set_option linter.unusedVariables false

/-- A part of some cells. -/
def chunk (cs : List Value) (o n : Nat) : List Value := (cs.drop o).take n
/-- Fields one behind the other, from o up to n. -/
def tileB (P : Program) : List Field → Nat → Nat → Bool
  | [], o, n => o == n
  | f :: fs, o, n => f.offset == o && f.name != "_" && tileB P fs (o + P.cellsOf f.type) n
/-- The cells that a value of a type has. -/
def Fit (P : Program) : Nat → TypeId → List Value → Prop
  | 0, _, _ => False
  | d + 1, t, cs => match P.underlying t with
    | some .bool => ∃ b, cs = [.bool b]
    | some (.int k) => ∃ n, cs = [.int k n]
    | some .string => ∃ s, cs = [.string s]
    | some (.array n e) => (P.info? e).isSome = true ∧ cs.length = n * P.cellsOf e ∧ ∀ i, i < n → Fit P d e (chunk cs (i * P.cellsOf e) (P.cellsOf e))
    | some (.struct fs) => P.stoodInHeld t = false ∧ tileB P fs.toList 0 cs.length = true ∧ ∀ f ∈ fs.toList, Fit P d f.type (chunk cs f.offset (P.cellsOf f.type))
    | _ => False
section
variable {P : Program}
end
section
variable {P : Program} {o : Oper} {a : Act}
end
section
variable {P : Program} {d : Nat} {t : TypeId} {cs : List Value}
end
/-- A part of a row is written. -/
theorem lay_head (a b v : List Value) (h : v.length = a.length) : lay (a ++ b) 0 v = v ++ b := by
  unfold lay
  rw [List.take_zero, List.nil_append, Nat.zero_add, h, List.drop_left]
theorem lay_skip (a b v : List Value) {m : Nat} (o : Nat) (h : a.length = m) : lay (a ++ b) (m + o) v = a ++ lay b o v := by
  unfold lay
  subst h
  rw [List.take_length_add_append, Nat.add_assoc, List.drop_length_add_append, List.append_assoc, List.append_assoc, List.append_assoc]
end Go.Proofs.Ytbpghogdjpobnaa.Mem

/-
  An argument of integers, arrays and structs of such, opened: what cells it has. Over whatever program.
-/
namespace Go.Proofs.Ytbpghogdjpobnaa.Mem
open Go.ChangeShapes Go.WideShapes Go.ChangeAt Go.RowKit
set_option linter.unusedVariables false

/-- What cells such an argument has. -/
def Came (P : Program) : Nat → TypeId → List Value → Prop
  | 0, _, _ => False
  | d + 1, t, cs => match P.underlying t with
    | some (.int k) => ∃ n, cs = [.int k n] ∧ (Lit.int k n).wf = true
    | some (.array n e) => cs.length = P.cellsOf t ∧ ∀ i, i < n → Came P d e (chunk cs (i * P.cellsOf e) (P.cellsOf e))
    | some (.struct fs) => cs.length = P.cellsOf t ∧ ∀ f ∈ fs.toList, Came P d f.type (chunk cs f.offset (P.cellsOf f.type))
    | _ => False
section
variable {H : Type} {enc : TypeId × Value → H} {P : Program} {w : World} {base : Nat} {spare : Nat → Bool} {held : Bool}
end
end Go.Proofs.Ytbpghogdjpobnaa.Mem
