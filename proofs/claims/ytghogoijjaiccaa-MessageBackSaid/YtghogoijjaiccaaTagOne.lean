/-
  A row of one part; bytes that the call made, as if they had come in. Over this seat's translation.
-/
import Derived.Test.YtghogoijjaiccaaTagAll
namespace Go.Proofs.Ytghogoijjaiccaa.Tg
open Go.ChangeShapes Go.WideShapes Go.ChangeAt Go.RowKit Go.Proofs.Ytghogoijjaiccaa.Mem Go.Proofs.Ytghogoijjaiccaa.Bt
set_option linter.unusedVariables false
section
variable {ops : Array Oper} {rest : List Oper} {o : Oper} {a : Act} {w : World} {Q : Exit → Act → World → Prop}
end
theorem _root_.Go.Proofs.Ytghogoijjaiccaa.Bt.Own.came {w : World} {base : Nat} {p : Option Addr} {cap : Nat} {bs : List Nat} (h : Own w base p cap bs) (hl : AllLt 256 bs) : Came w p cap bs := by
  refine ⟨h.at.1, h.nil, h.bytes, hl, ?_⟩
  rcases h.own.2 with ⟨hv, _⟩ | ⟨g, cap', cur, hv, hg, hh, hc, hcm, _⟩
  · simp only [Value.slice.injEq] at hv; rw [hv.2.2]; exact Nat.zero_le _
  · simp only [Value.slice.injEq] at hv; rw [hv.2.2]; exact hcm
end Go.Proofs.Ytghogoijjaiccaa.Tg
