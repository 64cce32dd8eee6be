/-
  Operations of whatever guard, once they are wanted; a struct written out, run; the contract of layer 6's awake over this seat's translation.
-/
import Derived.Test.YtbbmjjphkmjnbaaRingPut
namespace Go.Proofs.Ytbbmjjphkmjnbaa.Mem
open Go.RowKit
section
variable {P : Program} {ops : Array Oper} {rest : List Oper} {o : Oper} {a : Act} {w : World} {Q : Exit → Act → World → Prop}
/-- An operation that is wanted and yields a value. -/
theorem arm_want (v : Value) (d : Tmp) (hd : o.dst = some d) (hw : Region.wanted o (yielded ops a.tmps) = true) (hr : (execOp a.eval o).run P w = .ok (.value v) w) (h : wpList P ops Q rest (a.put (some d) v) w) : wpList P ops Q (o :: rest) a w :=
  BigFrame.wpList_want hw fun K hK => by
    unfold Oper.wp
    rw [hr]
    rw [← hd] at h
    exact hK _ _ h
/-- A struct or array that is written out, run. -/
theorem run_op_build (t : TypeId) (parts : Array (Nat × Operand)) (ho : o.op = .build t parts) (vs : List Value) (hb : P.built t (parts.map fun (i, x) => (i, a.eval x)).toList = some vs.toArray) (w : World) : (execOp a.eval o).run P w = .ok (.value (.agg vs.toArray)) w := by
  unfold execOp
  simp only [ho, Sem.run_bind, run_build w t _ vs.toArray hb, Result.andThen_ok, Sem.run_pure]
end
end Go.Proofs.Ytbbmjjphkmjnbaa.Mem
namespace Go.Proofs.Ytbbmjjphkmjnbaa.Rg
open Go.ChangeShapes Go.WideShapes Go.ChangeAt Go.RowKit Go.Proofs.Ytbbmjjphkmjnbaa.Mem Go.Proofs.Ytbbmjjphkmjnbaa.Bt
set_option linter.unusedVariables false
set_option linter.unusedSimpArgs false

theorem small_of (cs : List Nat) (h : (cs.all fun x => decide (x ≤ 3)) = true) : Small cs := fun i hi => by
  by_cases hl : i < cs.length
  · rw [List.getD_eq_getElem?_getD, List.getElem?_eq_getElem hl]
    exact of_decide_eq_true (List.all_eq_true.1 h _ (List.getElem_mem hl))
  · rw [List.getD_eq_getElem?_getD, List.getElem?_eq_none (by omega)]; exact Nat.zero_le _
theorem awk_put0 (w : World) : Calls Try.prog 30 #[.agg (rcs 0 [1, 3, 3, 3]).toArray, .int .u32 0] w fun e w' => e = .returned (.tuple #[.agg (rcs 0 [2, 3, 3, 3]).toArray, .int .i64 0]) ∧ Below w.heap.size w w' :=
  put_ok 0 0 [1, 3, 3, 3] w (by decide) (by decide) (by decide) rfl
theorem awk_put2 (w : World) : Calls Try.prog 30 #[.agg (rcs 0 [2, 3, 3, 3]).toArray, .int .u32 2] w fun e w' => e = .returned (.tuple #[.agg (rcs 2 [2, 0, 1, 3]).toArray, .int .i64 0]) ∧ Below w.heap.size w w' :=
  put_ok 0 2 [2, 3, 3, 3] w (by decide) (by decide) (by decide) rfl
theorem awk_put1 (w : World) : Calls Try.prog 30 #[.agg (rcs 2 [2, 0, 1, 3]).toArray, .int .u32 1] w fun e w' => e = .returned (.tuple #[.agg (rcs 0 [0, 0, 0, 0]).toArray, .int .i64 6]) ∧ Below w.heap.size w w' :=
  put_early 2 1 [2, 0, 1, 3] w (by decide) rfl
theorem awk_before (w : World) : Calls Try.prog 25 #[.agg (rcs 0 [2, 3, 3, 3]).toArray, .int .u32 2] w fun e w' => e = .returned (.tuple #[.int .u32 8, .int .i64 0]) ∧ Below w.heap.size w w' :=
  before_any 0 2 [2, 3, 3, 3] w (by decide) (by decide) (small_of _ (by decide)) rfl
theorem awk_right (w : World) : Calls Try.prog 20 #[.agg (rcs 2 [2, 0, 1, 3]).toArray] w fun e w' => e = .returned (.bool true) ∧ Below w.heap.size w w' := by
  have h := right_any 2 [2, 0, 1, 3] w (by decide) (by intro x hx; simp at hx; omega) rfl
  rw [show decide (Rt 2 [2, 0, 1, 3]) = true by decide] at h
  exact h
theorem awk_wrong (w : World) : Calls Try.prog 20 #[.agg (rcs 0 [0, 0, 0, 0]).toArray] w fun e w' => e = .returned (.bool false) ∧ Below w.heap.size w w' := by
  have h := right_any 0 [0, 0, 0, 0] w (by decide) (by intro x hx; simp at hx; omega) rfl
  rw [show decide (Rt 0 [0, 0, 0, 0]) = false by decide] at h
  exact h
theorem awk_sum (w : World) : Calls Try.prog 33 #[.agg (rcs 2 [2, 0, 1, 3]).toArray] w fun e w' => e = .returned (.int .u32 6) ∧ Below w.heap.size w w' :=
  sum_any 2 [2, 0, 1, 3] w (small_of _ (by decide)) rfl
end Go.Proofs.Ytbbmjjphkmjnbaa.Rg
