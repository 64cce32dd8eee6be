/-
  Structs that are written out, some of whose fields are whole arrays or structs: what cells they have. Over whatever program.
-/
import Derived.Test.YtbbmjjphkmjnbaaMem
namespace Go.Proofs.Ytbbmjjphkmjnbaa.Mem
open Go.RowKit
set_option linter.unusedVariables false

theorem lay_cons (cs vs : List Value) (off : Nat) (c : Value) (h : off + (vs.length + 1) ≤ cs.length) : lay (cs.set off c) (off + 1) vs = lay cs off (c :: vs) := by
  unfold lay
  have h1 : (cs.set off c).take (off + 1) = cs.take off ++ [c] := by
    rw [List.set_eq_take_append_cons_drop, if_pos (by omega), List.take_append, List.length_take, Nat.min_eq_left (by omega)]
    simp [List.take_take]
  have h2 : (cs.set off c).drop (off + 1 + vs.length) = cs.drop (off + (c :: vs).length) := by
    rw [List.drop_set_of_lt (by omega)]
    simp only [List.length_cons]
    congr 1; omega
  rw [h1, h2]
  simp
theorem lay_length (cs vs : List Value) (off : Nat) (h : off + vs.length ≤ cs.length) : (lay cs off vs).length = cs.length := by
  unfold lay
  simp only [List.length_append, List.length_take, List.length_drop]
  omega
theorem fold_lay : ∀ (vs cs : List Value) (off k : Nat), off + k + vs.length ≤ cs.length →
    (vs.zipIdx k).foldl (fun (a : Array Value) (p : Value × Nat) => a.setIfInBounds (off + p.2) p.1) cs.toArray = (lay cs (off + k) vs).toArray
  | [], cs, off, k, h => by simp [lay]
  | c :: vs, cs, off, k, h => by
    simp only [List.length_cons] at h
    rw [List.zipIdx_cons, List.foldl_cons]
    simp only [List.setIfInBounds_toArray]
    rw [fold_lay vs (cs.set (off + k) c) off (k + 1) (by simp; omega), ← Nat.add_assoc, lay_cons cs vs (off + k) c (by omega)]
theorem fill_step (place : Nat → Option (Nat × Nat)) (cs : List Value) (i off n : Nat) (v : Value) (vs : List Value) (rest : List (Nat × Value)) (hp : place i = some (off, n)) (hv : v.cells = vs.toArray) (hn : vs.length = n) (hf : off + n ≤ cs.length) :
    Instr.fill place cs.toArray ((i, v) :: rest) = Instr.fill place (lay cs off vs).toArray rest := by
  have hc : ¬ ((v.cells.size ≠ n || off + v.cells.size > cs.toArray.size) = true) := by
    rw [hv]; simp only [List.size_toArray]; simp; omega
  have hz := fold_lay vs cs off 0 (by omega)
  simp only [Nat.add_zero] at hz
  rw [Instr.fill, hp]
  simp only [hc, Bool.false_eq_true, if_false]
  rw [hv, ← hz]
  simp
theorem fill_done (place : Nat → Option (Nat × Nat)) (cs : List Value) : Instr.fill place cs.toArray [] = some cs.toArray := rfl
end Go.Proofs.Ytbbmjjphkmjnbaa.Mem
