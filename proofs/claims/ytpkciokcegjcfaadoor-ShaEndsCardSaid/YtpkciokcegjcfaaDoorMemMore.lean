/-
  More laws of single operations in a region that draws its order: a sum, a part of a slice. Over whatever program.
-/
import Derived.Test.YtpkciokcegjcfaaDoorMem
namespace Go.Proofs.YtpkciokcegjcfaaDoor.Mem
open Go.RowKit
set_option linter.unusedVariables false
set_option linter.unusedSimpArgs false
section
variable {P : Program} {o : Oper} {a : Act}
theorem run_op_add (T t' : TypeId) (x y : Operand) (ho : o.op = .binOp .add T x y t') (m n : Int) (hx : a.eval x = .int .i64 m) (hy : a.eval y = .int .i64 n) (hf : IntKind.i64.wrap (m + n) = m + n) :
    ∀ w : World, (execOp a.eval o).run P w = .ok (.value (.int .i64 (m + n))) w := fun w => by
  unfold execOp
  simp [ho, hx, hy, eqGuard, binOp, Op.intArith, hf]
theorem run_op_slice2 (t : TypeId) (x lo hi : Operand) (ho : o.op = .slice t x (some lo) (some hi) none) (e : TypeId) (hu : P.underlying t = some (.slice e)) (hse : (P.info? e).map (·.size) = some 1)
    (g off len cap : Nat) (hx : a.eval x = .slice (some ⟨g, off, none⟩) len cap) (k1 k2 : IntKind) (i j : Int) (hlo : a.eval lo = .int k1 i) (hhi : a.eval hi = .int k2 j) (l h : Nat) (hi' : i = (l : Int)) (hj' : j = (h : Int)) (hlh : l ≤ h) (hhc : h ≤ cap) (hlc : l < cap) :
    ∀ w : World, (execOp a.eval o).run P w = .ok (.value (.slice (some ⟨g, off + l, none⟩) (h - l) (cap - l))) w := fun w => by
  subst hi' hj'
  cases hq : P.info? e with
  | none => simp [hq] at hse
  | some ie =>
    have hs : ie.size = 1 := by simpa [hq] using hse
    have hr : (Instr.sliceAt t (.slice (some ⟨g, off, none⟩) len cap) (some (.int k1 (l : Int))) (some (.int k2 (h : Int))) none).run P w = .ok (.slice (some ⟨g, off + l, none⟩) (h - l) (cap - l)) w := by
      have h1 : (h : Int) ≤ (cap : Int) := by omega
      have h2 : (l : Int) ≤ (h : Int) := by omega
      have h3 : (⟨g, off, none⟩ : Addr).add l = ⟨g, off + l, none⟩ := Addr.add_mid g off l
      have h4 : ¬ cap = l := by omega
      simp [Instr.sliceAt, Instr.slice, run_underlying hu, Instr.sliceBounds, Instr.sliceBound, asIntOf, h1, h2, sizeOf, typeInfo, hq, hs, h3, h4, hhc, hlh]
    unfold execOp
    simp only [ho, hx, Option.map_some, Option.map_none, hlo, hhi, Sem.run_bind, hr, Result.andThen_ok, Sem.run_pure]
end
end Go.Proofs.YtpkciokcegjcfaaDoor.Mem
