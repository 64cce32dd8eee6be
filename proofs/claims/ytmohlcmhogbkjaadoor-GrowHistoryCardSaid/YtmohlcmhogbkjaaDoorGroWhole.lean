/-
  The contract of layer 10's whole: the least of all windows that are looked at, of a whole history of slots. Over this seat's translation.
-/
import Derived.Test.YtmohlcmhogbkjaaDoorGroCount
import Derived.Test.YtmohlcmhogbkjaaDoorGroHist
import Derived.Test.YtmohlcmhogbkjaaDoorRingAll
import Derived.Test.YtmohlcmhogbkjaaDoorCmp
import Derived.Test.YtmohlcmhogbkjaaDoorMemAll
namespace Go.Proofs.YtmohlcmhogbkjaaDoor.Gr
open Go.ChangeShapes Go.WideShapes Go.ChangeAt Go.RowKit Go.Proofs.YtmohlcmhogbkjaaDoor.Mem Go.Proofs.YtmohlcmhogbkjaaDoor.Bt Go.Proofs.YtmohlcmhogbkjaaDoor.Rg Go.Proofs.YtmohlcmhogbkjaaDoor.Wn Go.Proofs.YtmohlcmhogbkjaaDoor.Wd
set_option linter.unusedVariables false
set_option linter.unusedSimpArgs false

theorem r32_take {w : World} {p : Option Addr} {xs : List Nat} (h : R32 w p xs) (k : Nat) : R32 w p (xs.take k) :=
  ⟨fun hne => by
    obtain ⟨g, o, e, hr⟩ := h.at_ (fun h0 => hne (by rw [h0]; simp))
    refine ⟨g, o, e, fun j v hj => hr j v ?_⟩
    rw [show u32s (xs.take k) = (u32s xs).take k by unfold u32s; rw [List.map_take], List.getElem?_take] at hj
    split at hj
    · exact hj
    · cases hj⟩
section
variable {o : Oper} {a : Act}
theorem run_op_headS (t : TypeId) (x hi : Operand) (ho : o.op = .slice t x none (some hi) none) (e : TypeId) (hu : Tryd.prog.underlying t = some (.slice e)) (hse : (Tryd.prog.info? e).map (·.size) = some 1)
    (p : Option Addr) (len cap : Nat) (hx : a.eval x = .slice p len cap) (k1 : IntKind) (m : Nat) (hhi : a.eval hi = .int k1 (m : Int)) (hmc : m ≤ cap) (w : World) : (execOp a.eval o).run Tryd.prog w = .ok (.value (.slice p m cap)) w := by
  cases hq : Tryd.prog.info? e with
  | none => simp [hq] at hse
  | some ie =>
    have hs : ie.size = 1 := by simpa [hq] using hse
    have hr : (Instr.sliceAt t (.slice p len cap) none (some (.int k1 (m : Int))) none).run Tryd.prog w = .ok (.slice p m cap) w := by
      have h1 : (m : Int) ≤ (cap : Int) := by omega
      have h2 : (if cap = 0 then p else p.map (·.add 0)) = p := by rw [map_add_zero]; split <;> rfl
      simp [Instr.sliceAt, Instr.slice, run_underlying hu, Instr.sliceBounds, Instr.sliceBound, asIntOf, h1, hmc, sizeOf, typeInfo, hq, hs, h2]
    unfold execOp
    simp only [ho, hx, Option.map_some, Option.map_none, hhi, Sem.run_bind, hr, Result.andThen_ok, Sem.run_pure]
theorem run_op_conv (src dst : TypeId) (x : Operand) (ho : o.op = .convert src dst x) (ks kd kx : IntKind) (hus : Tryd.prog.underlying src = some (.int ks)) (hud : Tryd.prog.underlying dst = some (.int kd)) (n : Int) (hx : a.eval x = .int kx n) (m : Int) (hm : kd.wrap n = m) (w : World) : (execOp a.eval o).run Tryd.prog w = .ok (.value (.int kd m)) w := by
  subst hm
  unfold execOp
  simp [ho, hx, convert, run_underlying hus, run_underlying hud, Conv.intToInt]
end
end Go.Proofs.YtmohlcmhogbkjaaDoor.Gr
