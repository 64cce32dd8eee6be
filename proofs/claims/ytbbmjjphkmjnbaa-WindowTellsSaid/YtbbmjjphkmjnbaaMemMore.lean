/-
  More laws of single operations in a region that draws its order: a sum, a part of a slice; a region whose operations and callees change nothing that was there, in a class of worlds. Over whatever program.
-/
import Derived.Test.YtbbmjjphkmjnbaaMem
import Derived.Deep.QuietTactic
import Derived.BigQuiet
namespace Go.Proofs.Ytbbmjjphkmjnbaa.Mem
open Go.RowKit
set_option linter.unusedVariables false
set_option linter.unusedSimpArgs false
section
variable {P : Program} {o : Oper} {a : Act}
theorem run_op_add (T t' : TypeId) (x y : Operand) (ho : o.op = .binOp .add T x y t') (m n : Int) (hx : a.eval x = .int .i64 m) (hy : a.eval y = .int .i64 n) (hf : IntKind.i64.wrap (m + n) = m + n) :
    ∀ w : World, (execOp a.eval o).run P w = .ok (.value (.int .i64 (m + n))) w := fun w => by
  unfold execOp
  simp [ho, hx, hy, eqGuard, binOp, Op.intArith, hf]
theorem run_op_slice2 (t : TypeId) (x lo hi : Operand) (ho : o.op = .slice t x (some lo) (some hi) none) (e : TypeId) (hu : P.underlying t = some (.slice e)) (hse : (P.info? e).map (·.size) = some 1)
    (g off len cap : Nat) (hx : a.eval x = .slice (some ⟨g, off, none⟩) len cap) (k1 k2 : IntKind) (i j : Int) (hlo : a.eval lo = .int k1 i) (hhi : a.eval hi = .int k2 j) (l h : Nat) (hi' : i = (l : Int)) (hj' : j = (h : Int)) (hlh : l ≤ h) (hhc : h ≤ cap) (hlc : l < cap) :
    ∀ w : World, (execOp a.eval o).run P w = .ok (.value (.slice (some ⟨g, off + l, none⟩) (h - l) (cap - l))) w := fun w => by
  subst hi' hj'
  cases hq : P.info? e with
  | none => simp [hq] at hse
  | some ie =>
    have hs : ie.size = 1 := by simpa [hq] using hse
    have hr : (Instr.sliceAt t (.slice (some ⟨g, off, none⟩) len cap) (some (.int k1 (l : Int))) (some (.int k2 (h : Int))) none).run P w = .ok (.slice (some ⟨g, off + l, none⟩) (h - l) (cap - l)) w := by
      have h1 : (h : Int) ≤ (cap : Int) := by omega
      have h2 : (l : Int) ≤ (h : Int) := by omega
      have h3 : (⟨g, off, none⟩ : Addr).add l = ⟨g, off + l, none⟩ := Addr.add_mid g off l
      have h4 : ¬ cap = l := by omega
      simp [Instr.sliceAt, Instr.slice, run_underlying hu, Instr.sliceBounds, Instr.sliceBound, asIntOf, h1, h2, sizeOf, typeInfo, hq, hs, h3, h4, hhc, hlh]
    unfold execOp
    simp only [ho, hx, Option.map_some, Option.map_none, hlo, hhi, Sem.run_bind, hr, Result.andThen_ok, Sem.run_pure]
end
section
variable {P : Program} {ops : Array Oper} {C : World → Prop} {Q : Act → Prop} {a : Act} {o : Oper} {rest : List Oper}
theorem q_value (d : Tmp) (hd : o.dst = some d) (v : Value) (hw : Region.wanted o (yielded ops a.tmps) = true) (hr : ∀ w, C w → (execOp a.eval o).run P w = .ok (.value v) w) (h : wpQuiet P ops C Q rest (a.put (some d) v)) : wpQuiet P ops C Q (o :: rest) a :=
  BigFrame.wpQuiet_want hw fun K hK => ⟨v, fun w hC => by unfold Oper.quietAt; rw [hr w hC]; exact ⟨rfl, rfl⟩, hK _ (by rw [hd]; exact h)⟩
theorem q_call (d : Tmp) (hd : o.dst = some d) (v : Value) (f : FuncId) (args : Array Value) (hw : Region.wanted o (yielded ops a.tmps) = true) (hr : ∀ w, C w → (execOp a.eval o).run P w = .ok (.enter f args) w)
    (hc : ∀ w, C w → Calls P f args w (fun e w'' => e = .returned v ∧ C w'')) (h : wpQuiet P ops C Q rest (a.put (some d) v)) : wpQuiet P ops C Q (o :: rest) a :=
  BigFrame.wpQuiet_want hw fun K hK => ⟨v, fun w hC => by unfold Oper.quietAt; rw [hr w hC]; exact ⟨rfl, hc w hC⟩, hK _ (by rw [hd]; exact h)⟩
end
end Go.Proofs.Ytbbmjjphkmjnbaa.Mem
