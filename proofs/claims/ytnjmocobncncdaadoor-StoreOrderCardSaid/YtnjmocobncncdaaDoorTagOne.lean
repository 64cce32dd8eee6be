/-
  A row of one part; bytes that the call made, as if they had come in. Over this seat's translation.
-/
import Derived.Test.YtnjmocobncncdaaDoorTagAll
namespace Go.Proofs.YtnjmocobncncdaaDoor.Tg
open Go.ChangeShapes Go.WideShapes Go.ChangeAt Go.RowKit Go.Proofs.YtnjmocobncncdaaDoor.Mem Go.Proofs.YtnjmocobncncdaaDoor.Bt
set_option linter.unusedVariables false
theorem run_one (p : Option Addr) (n c : Nat) (w : World) : (Instr.buildSlice 81 1 #[(0, .slice p n c)]).run Tryd.prog w = .ok (.slice (some ⟨w.heap.size, 0, none⟩) 1 1) (w.alloc (.cells #[.slice p n c] 69)) := by kernel_rfl
section
variable {ops : Array Oper} {rest : List Oper} {o : Oper} {a : Act} {w : World} {Q : Exit → Act → World → Prop}
theorem run_op_one (x : Operand) (ho : o.op = .buildSlice 81 1 #[(0, x)]) (p : Option Addr) (n c : Nat) (hx : a.eval x = .slice p n c) (w : World) :
    (execOp a.eval o).run Tryd.prog w = .ok (.value (.slice (some ⟨w.heap.size, 0, none⟩) 1 1)) (w.alloc (.cells #[.slice p n c] 69)) := by
  unfold execOp
  simp only [ho, List.map_toArray, List.map_cons, List.map_nil, hx, Sem.run_bind, run_one, Result.andThen_ok, Sem.run_pure]
/-- '[][]byte{x}'. -/
theorem arm_one (hgd : o.guard = none) (x : Operand) (ho : o.op = .buildSlice 81 1 #[(0, x)]) (p : Option Addr) (n c : Nat) (hx : a.eval x = .slice p n c)
    (h : ∀ b w2, Hid (b = w.heap.size) → Row w2 b 69 [.slice p n c] → New w w2 → wpList Tryd.prog ops Q rest (a.put o.dst (.slice (some ⟨b, 0, none⟩) 1 1)) w2) : wpList Tryd.prog ops Q (o :: rest) a w := by
  refine wpList_plain hgd fun K hK => ?_
  unfold Oper.wp
  rw [run_op_one x ho p n c hx]
  exact hK _ _ (h _ _ rfl (heap_alloc_new _ _) (new_alloc _ _))
end
/-- A row of one part. -/
theorem parts_one {w : World} {b : Nat} {p : Option Addr} {c : Nat} {h : List Nat} (hr : Row w b 69 [.slice p h.length c]) (hc : Came w p c h) : Parts w (some ⟨b, 0, none⟩) [h] :=
  ⟨fun _ => ⟨b, 0, rfl, hr.lt, fun i hi => by
    obtain rfl : i = 0 := by simpa using hi
    exact ⟨p, c, hr.cell rfl, hc⟩⟩⟩
theorem _root_.Go.Proofs.YtnjmocobncncdaaDoor.Bt.Own.came {w : World} {base : Nat} {p : Option Addr} {cap : Nat} {bs : List Nat} (h : Own w base p cap bs) (hl : AllLt 256 bs) : Came w p cap bs := by
  refine ⟨h.at.1, h.nil, h.bytes, hl, ?_⟩
  rcases h.own.2 with ⟨hv, _⟩ | ⟨g, cap', cur, hv, hg, hh, hc, hcm, _⟩
  · simp only [Value.slice.injEq] at hv; rw [hv.2.2]; exact Nat.zero_le _
  · simp only [Value.slice.injEq] at hv; rw [hv.2.2]; exact hcm
end Go.Proofs.YtnjmocobncncdaaDoor.Tg
