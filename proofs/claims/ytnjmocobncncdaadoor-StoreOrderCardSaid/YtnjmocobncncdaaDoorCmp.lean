/-
  Comparisons of integers, run, whose answer is a Bool that is known. Over whatever program.
-/
import Derived.Test.YtnjmocobncncdaaDoorMemAll
namespace Go.Proofs.YtnjmocobncncdaaDoor.Mem
open Go.RowKit
set_option linter.unusedVariables false
section
variable {P : Program} {o : Oper} {a : Act}
theorem cmp_lss (t t' : TypeId) (x y : Operand) (ho : o.op = .binOp .lss t x y t') (k : IntKind) (m n : Int) (hx : a.eval x = .int k m) (hy : a.eval y = .int k n) (b : Bool) (hb : decide (m < n) = b) (w : World) : (execOp a.eval o).run P w = .ok (.value (.bool b)) w := by
  subst hb
  unfold execOp
  simp [ho, hx, hy, eqGuard, binOp, Op.intCmp]
theorem cmp_leq (t t' : TypeId) (x y : Operand) (ho : o.op = .binOp .leq t x y t') (k : IntKind) (m n : Int) (hx : a.eval x = .int k m) (hy : a.eval y = .int k n) (b : Bool) (hb : decide (m ≤ n) = b) (w : World) : (execOp a.eval o).run P w = .ok (.value (.bool b)) w := by
  subst hb
  unfold execOp
  simp [ho, hx, hy, eqGuard, binOp, Op.intCmp]
theorem cmp_gtr (t t' : TypeId) (x y : Operand) (ho : o.op = .binOp .gtr t x y t') (k : IntKind) (m n : Int) (hx : a.eval x = .int k m) (hy : a.eval y = .int k n) (b : Bool) (hb : decide (n < m) = b) (w : World) : (execOp a.eval o).run P w = .ok (.value (.bool b)) w := by
  subst hb
  unfold execOp
  simp [ho, hx, hy, eqGuard, binOp, Op.intCmp]
theorem cmp_geq (t t' : TypeId) (x y : Operand) (ho : o.op = .binOp .geq t x y t') (k : IntKind) (m n : Int) (hx : a.eval x = .int k m) (hy : a.eval y = .int k n) (b : Bool) (hb : decide (n ≤ m) = b) (w : World) : (execOp a.eval o).run P w = .ok (.value (.bool b)) w := by
  subst hb
  unfold execOp
  simp [ho, hx, hy, eqGuard, binOp, Op.intCmp]
theorem cmp_eql (t t' : TypeId) (k' : IntKind) (hu : P.underlying t = some (.int k')) (x y : Operand) (ho : o.op = .binOp .eql t x y t') (k : IntKind) (m n : Int) (hx : a.eval x = .int k m) (hy : a.eval y = .int k n) (b : Bool) (hb : decide (m = n) = b) (w : World) : (execOp a.eval o).run P w = .ok (.value (.bool b)) w := by
  have h : (m == n) = b := by
    rw [← hb]
    by_cases e : m = n
    · rw [decide_eq_true e, e]; simp
    · rw [decide_eq_false e]; simp [e]
  subst h
  unfold execOp
  simp [ho, hx, hy, eqGuard, binOp, Op.intCmp]
theorem cmp_neq (t t' : TypeId) (k' : IntKind) (hu : P.underlying t = some (.int k')) (x y : Operand) (ho : o.op = .binOp .neq t x y t') (k : IntKind) (m n : Int) (hx : a.eval x = .int k m) (hy : a.eval y = .int k n) (b : Bool) (hb : decide (m = n) = !b) (w : World) : (execOp a.eval o).run P w = .ok (.value (.bool b)) w := by
  have h : (m == n) = !b := by
    rw [← hb]
    by_cases e : m = n
    · rw [decide_eq_true e, e]; simp
    · rw [decide_eq_false e]; simp [e]
  have h2 : (!(m == n)) = b := by rw [h]; simp
  subst h2
  unfold execOp
  simp [ho, hx, hy, eqGuard, binOp, Op.intCmp]
  rfl
end
end Go.Proofs.YtnjmocobncncdaaDoor.Mem
