/-
  Operations of whatever guard, once they are wanted; a struct written out, run; '==' and '!=' of integers, run; two results, the first of which lies in a variable of its own. Over whatever program.
-/
import Derived.Test.YtijpgncecfgfdaaDoorMemAll
namespace Go.Proofs.YtijpgncecfgfdaaDoor.Mem
open Go.RowKit
set_option linter.unusedVariables false
section
variable {P : Program} {ops : Array Oper} {rest : List Oper} {o : Oper} {a : Act} {w : World} {Q : Exit → Act → World → Prop}
/-- An operation that is wanted and yields a value. -/
theorem arm_want (v : Value) (d : Tmp) (hd : o.dst = some d) (hw : Region.wanted o (yielded ops a.tmps) = true) (hr : (execOp a.eval o).run P w = .ok (.value v) w) (h : wpList P ops Q rest (a.put (some d) v) w) : wpList P ops Q (o :: rest) a w :=
  BigFrame.wpList_want hw fun K hK => by
    unfold Oper.wp
    rw [hr]
    rw [← hd] at h
    exact hK _ _ h
/-- A struct or array that is written out, run. -/
theorem run_op_build (t : TypeId) (parts : Array (Nat × Operand)) (ho : o.op = .build t parts) (vs : List Value) (hb : P.built t (parts.map fun (i, x) => (i, a.eval x)).toList = some vs.toArray) (w : World) : (execOp a.eval o).run P w = .ok (.value (.agg vs.toArray)) w := by
  unfold execOp
  simp only [ho, Sem.run_bind, run_build w t _ vs.toArray hb, Result.andThen_ok, Sem.run_pure]
end
/-- Two results, the first of which lies in a variable of its own. -/
theorem result_row2 {P : Program} {fn : Func} {p u : Tmp} {ty : TypeId} (h : fn.results = #[.cell p ty, .tmp u]) (tmps : Array Value) (w : World) (b : Nat) (t : TypeId) (cs : List Value) (v : Value)
    (hp : tmps.getD p undef = .pointer (some ⟨b, 0, none⟩)) (hu : tmps.getD u undef = v) (hr : Row w b t cs) (hs : Sized P ty cs.length) : (results fn tmps).run P w = .ok (.tuple #[.agg cs.toArray, v]) w := by
  obtain ⟨d, hud, hd, hi⟩ := hs
  have hp' : tmps[p]?.getD undef = .pointer (some ⟨b, 0, none⟩) := by simpa using hp
  have hu' : tmps[u]?.getD undef = v := by simpa using hu
  have hl := run_loadVar_row (P := P) w b t ty cs.toArray (0, 0) d hr hud (by cases d <;> first | rfl | cases hd) (by simpa using hi)
  simp [results, h, hp', hu', asAddr, hl]
theorem run_op_eqlI {P : Program} {o : Oper} {a : Act} (t t' : TypeId) (k' : IntKind) (hu : P.underlying t = some (.int k')) (x y : Operand) (ho : o.op = .binOp .eql t x y t') (k : IntKind) (m n : Int) (hx : a.eval x = .int k m) (hy : a.eval y = .int k n) (w : World) :
    (execOp a.eval o).run P w = .ok (.value (.bool (m == n))) w := by
  unfold execOp
  simp [ho, hx, hy, eqGuard, binOp, Op.intCmp]
theorem eqI_same (m : Int) : (m == m) = true := beq_self_eq_true m
theorem run_op_neqI {P : Program} {o : Oper} {a : Act} (t t' : TypeId) (k' : IntKind) (hu : P.underlying t = some (.int k')) (x y : Operand) (ho : o.op = .binOp .neq t x y t') (k : IntKind) (m n : Int) (hx : a.eval x = .int k m) (hy : a.eval y = .int k n) (w : World) :
    (execOp a.eval o).run P w = .ok (.value (.bool (!(m == n)))) w := by
  unfold execOp
  simp [ho, hx, hy, eqGuard, binOp, Op.intCmp]
  rfl
end Go.Proofs.YtijpgncecfgfdaaDoor.Mem
