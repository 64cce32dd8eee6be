import Derived.Test.YtghogoijjaiccaaBytAll
import Derived.Test.YtghogoijjaiccaaShaAll
import Derived.Lib.AppendStr
import Derived.Test.YtghogoijjaiccaaShaRefAll
/-
  The image of a name and parts, over lists of numbers; unlike names, or parts, have unlike images.
-/
namespace Go.Proofs.Ytghogoijjaiccaa.Tg
open Go.Proofs.Ytghogoijjaiccaa.Bt

/-- A number's four bytes, the highest first. -/
def four (n : Nat) : List Nat := [n / 16777216 % 256, n / 65536 % 256, n / 256 % 256, n % 256]
def imgs : List (List Nat) → List Nat
  | [] => []
  | b :: r => four b.length ++ (b ++ imgs r)
/-- The image. -/
def image (name : List Nat) (parts : List (List Nat)) : List Nat := [name.length] ++ name ++ [parts.length] ++ imgs parts
theorem take_snoc (l : List (List Nat)) (k : Nat) (h : k < l.length) : l.take (k + 1) = l.take k ++ [l.getD k []] := by
  rw [List.take_add_one, List.getElem?_eq_getElem h]
  simp [List.getD_eq_getElem?_getD, List.getElem?_eq_getElem h]
/-- A text's bytes. -/
def bytesOf (s : ByteArray) : List Nat := s.data.toList.map fun b => b.toNat
theorem bytesOf_length (s : ByteArray) : (bytesOf s).length = s.size := by simp [bytesOf]
theorem bytesOf_lt (s : ByteArray) : AllLt 256 (bytesOf s) := by
  intro x hx
  simp only [bytesOf, List.mem_map] at hx
  obtain ⟨b, _, rfl⟩ := hx
  exact b.toNat_lt
theorem bytesOf_inj {s t : ByteArray} (h : bytesOf s = bytesOf t) : s = t := by
  obtain ⟨⟨x⟩⟩ := s
  obtain ⟨⟨y⟩⟩ := t
  have : x = y := by
    simp only [bytesOf] at h
    exact (List.map_inj_right (fun a b hab => UInt8.toNat_inj.1 hab)).1 h
  rw [this]
end Go.Proofs.Ytghogoijjaiccaa.Tg

/-
  Parts that came in.
-/
namespace Go.Proofs.Ytghogoijjaiccaa.Tg
open Go.ChangeShapes Go.WideShapes Go.ChangeAt Go.RowKit Go.Proofs.Ytghogoijjaiccaa.Mem Go.Proofs.Ytghogoijjaiccaa.Bt
set_option linter.unusedVariables false

/-- Rows of bytes that came in. -/
structure Parts (w : World) (P : Option Addr) (l : List (List Nat)) : Prop where
  at_ : 0 < l.length → ∃ g o, P = some ⟨g, o, none⟩ ∧ g < w.heap.size ∧ ∀ i, i < l.length → ∃ p cap, w.cell? ⟨g, o + i, none⟩ = some (.slice p (l.getD i []).length cap) ∧ Came w p cap (l.getD i [])
theorem Parts.below {w w' : World} {P : Option Addr} {l : List (List Nat)} (h : Parts w P l) (hb : Below w.heap.size w w') : Parts w' P l :=
  ⟨fun hn => by
    obtain ⟨g, o, e, hg, hr⟩ := h.at_ hn
    refine ⟨g, o, e, Nat.lt_of_lt_of_le hg hb.size, fun i hi => ?_⟩
    obtain ⟨p, cap, hc, hcame⟩ := hr i hi
    exact ⟨p, cap, by rw [hb.cell (p := ⟨g, o + i, none⟩) hg]; exact hc, hcame.below hb⟩⟩
theorem Parts.lt {w : World} {P : Option Addr} {l : List (List Nat)} (h : Parts w P l) : ∀ b ∈ l, AllLt 256 b := by
  intro b hb
  obtain ⟨i, hi, rfl⟩ := List.getElem_of_mem hb
  obtain ⟨g, o, e, hg, hr⟩ := h.at_ (by omega)
  obtain ⟨p, cap, hc, hcame⟩ := hr i hi
  have := hcame.lt_
  rwa [List.getD_eq_getElem?_getD, List.getElem?_eq_getElem hi] at this

end Go.Proofs.Ytghogoijjaiccaa.Tg

/-
  The contracts of layer 3's large and of the document's Four, over this seat's translation.
-/
namespace Go.Proofs.Ytghogoijjaiccaa.Tg
open Go.ChangeShapes Go.WideShapes Go.ChangeAt Go.RowKit Go.Proofs.Ytghogoijjaiccaa.Mem Go.Proofs.Ytghogoijjaiccaa.Bt
set_option linter.unusedVariables false

end Go.Proofs.Ytghogoijjaiccaa.Tg

/-
  The contracts of tag.Image over this seat's translation.
-/
namespace Go.Proofs.Ytghogoijjaiccaa.Tg
open Go.ChangeShapes Go.WideShapes Go.ChangeAt Go.RowKit Go.Proofs.Ytghogoijjaiccaa.Mem Go.Proofs.Ytghogoijjaiccaa.Bt
set_option linter.unusedVariables false

section
variable {ops : Array Oper} {rest : List Oper} {o : Oper} {a : Act} {w : World} {Q : Exit → Act → World → Prop}
end
end Go.Proofs.Ytghogoijjaiccaa.Tg

/-
  The contracts of the document's Image over this seat's translation.
-/
namespace Go.Proofs.Ytghogoijjaiccaa.Tg
open Go.ChangeShapes Go.WideShapes Go.ChangeAt Go.RowKit Go.Proofs.Ytghogoijjaiccaa.Mem Go.Proofs.Ytghogoijjaiccaa.Bt
set_option linter.unusedVariables false

section
variable {ops : Array Oper} {rest : List Oper} {o : Oper} {a : Act} {w : World} {Q : Exit → Act → World → Prop}
end
end Go.Proofs.Ytghogoijjaiccaa.Tg

/-
  The contracts of tag.Of and of the document's Of (layer 3), over this seat's translation.
-/
namespace Go.Proofs.Ytghogoijjaiccaa.Tg
open Go.ChangeShapes Go.WideShapes Go.ChangeAt Go.RowKit Go.Proofs.Ytghogoijjaiccaa.Num Go.Proofs.Ytghogoijjaiccaa.Mem Go.Proofs.Ytghogoijjaiccaa.Bt Go.Proofs.Ytghogoijjaiccaa.Sha
set_option linter.unusedVariables false

/-- The digest of a name and parts; where there is no image the zero one. -/
def tagD (s : ByteArray) (l : List (List Nat)) : List Nat := if s.size ≤ 255 ∧ l.length ≤ 255 then digest (image (bytesOf s) l) else List.replicate 32 0
theorem _root_.Go.Proofs.Ytghogoijjaiccaa.Bt.Own.nil {w : World} {base : Nat} {p : Option Addr} {cap : Nat} {bs : List Nat} (h : Own w base p cap bs) : p = none → cap = 0 := by
  rintro rfl
  rcases h.own.2 with ⟨hv, _⟩ | ⟨g, cap', cur, hv, _⟩
  · simp only [Value.slice.injEq] at hv; exact hv.2.2
  · simp at hv

end Go.Proofs.Ytghogoijjaiccaa.Tg
