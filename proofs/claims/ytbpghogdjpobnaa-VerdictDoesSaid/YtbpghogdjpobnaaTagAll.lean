import Derived.Test.YtbpghogdjpobnaaBytAll
import Derived.Test.YtbpghogdjpobnaaShaAll
import Derived.Lib.AppendStr
import Derived.Test.YtbpghogdjpobnaaMemAll
/-
  The image of a name and parts, over lists of numbers; unlike names, or parts, have unlike images.
-/
namespace Go.Proofs.Ytbpghogdjpobnaa.Tg
open Go.Proofs.Ytbpghogdjpobnaa.Bt

end Go.Proofs.Ytbpghogdjpobnaa.Tg

/-
  Parts that came in.
-/
namespace Go.Proofs.Ytbpghogdjpobnaa.Tg
open Go.ChangeShapes Go.WideShapes Go.ChangeAt Go.RowKit Go.Proofs.Ytbpghogdjpobnaa.Mem Go.Proofs.Ytbpghogdjpobnaa.Bt
set_option linter.unusedVariables false

/-- Rows of bytes that came in. -/
structure Parts (w : World) (P : Option Addr) (l : List (List Nat)) : Prop where
  at_ : 0 < l.length → ∃ g o, P = some ⟨g, o, none⟩ ∧ g < w.heap.size ∧ ∀ i, i < l.length → ∃ p cap, w.cell? ⟨g, o + i, none⟩ = some (.slice p (l.getD i []).length cap) ∧ Came w p cap (l.getD i [])
theorem Parts.below {w w' : World} {P : Option Addr} {l : List (List Nat)} (h : Parts w P l) (hb : Below w.heap.size w w') : Parts w' P l :=
  ⟨fun hn => by
    obtain ⟨g, o, e, hg, hr⟩ := h.at_ hn
    refine ⟨g, o, e, Nat.lt_of_lt_of_le hg hb.size, fun i hi => ?_⟩
    obtain ⟨p, cap, hc, hcame⟩ := hr i hi
    exact ⟨p, cap, by rw [hb.cell (p := ⟨g, o + i, none⟩) hg]; exact hc, hcame.below hb⟩⟩
theorem Parts.lt {w : World} {P : Option Addr} {l : List (List Nat)} (h : Parts w P l) : ∀ b ∈ l, AllLt 256 b := by
  intro b hb
  obtain ⟨i, hi, rfl⟩ := List.getElem_of_mem hb
  obtain ⟨g, o, e, hg, hr⟩ := h.at_ (by omega)
  obtain ⟨p, cap, hc, hcame⟩ := hr i hi
  have := hcame.lt_
  rwa [List.getD_eq_getElem?_getD, List.getElem?_eq_getElem hi] at this

end Go.Proofs.Ytbpghogdjpobnaa.Tg

/-
  The contracts of layer 3's large and of the document's Four, over this seat's translation.
-/
namespace Go.Proofs.Ytbpghogdjpobnaa.Tg
open Go.ChangeShapes Go.WideShapes Go.ChangeAt Go.RowKit Go.Proofs.Ytbpghogdjpobnaa.Mem Go.Proofs.Ytbpghogdjpobnaa.Bt
set_option linter.unusedVariables false

end Go.Proofs.Ytbpghogdjpobnaa.Tg

/-
  The contracts of tag.Image over this seat's translation.
-/
namespace Go.Proofs.Ytbpghogdjpobnaa.Tg
open Go.ChangeShapes Go.WideShapes Go.ChangeAt Go.RowKit Go.Proofs.Ytbpghogdjpobnaa.Mem Go.Proofs.Ytbpghogdjpobnaa.Bt
set_option linter.unusedVariables false

section
variable {ops : Array Oper} {rest : List Oper} {o : Oper} {a : Act} {w : World} {Q : Exit → Act → World → Prop}
end
end Go.Proofs.Ytbpghogdjpobnaa.Tg

/-
  The contracts of the document's Image over this seat's translation.
-/
namespace Go.Proofs.Ytbpghogdjpobnaa.Tg
open Go.ChangeShapes Go.WideShapes Go.ChangeAt Go.RowKit Go.Proofs.Ytbpghogdjpobnaa.Mem Go.Proofs.Ytbpghogdjpobnaa.Bt
set_option linter.unusedVariables false

section
variable {ops : Array Oper} {rest : List Oper} {o : Oper} {a : Act} {w : World} {Q : Exit → Act → World → Prop}
end
end Go.Proofs.Ytbpghogdjpobnaa.Tg

/-
  The contracts of tag.Of and of the document's Of (layer 3), over this seat's translation.
-/
namespace Go.Proofs.Ytbpghogdjpobnaa.Tg
open Go.ChangeShapes Go.WideShapes Go.ChangeAt Go.RowKit Go.Proofs.Ytbpghogdjpobnaa.Num Go.Proofs.Ytbpghogdjpobnaa.Mem Go.Proofs.Ytbpghogdjpobnaa.Bt Go.Proofs.Ytbpghogdjpobnaa.Sha
set_option linter.unusedVariables false

theorem _root_.Go.Proofs.Ytbpghogdjpobnaa.Bt.Own.nil {w : World} {base : Nat} {p : Option Addr} {cap : Nat} {bs : List Nat} (h : Own w base p cap bs) : p = none → cap = 0 := by
  rintro rfl
  rcases h.own.2 with ⟨hv, _⟩ | ⟨g, cap', cur, hv, _⟩
  · simp only [Value.slice.injEq] at hv; exact hv.2.2
  · simp at hv

end Go.Proofs.Ytbpghogdjpobnaa.Tg
