import Derived.Test.YtbpghogdjpobnaaRows
import Derived.Test.YtbpghogdjpobnaaMemAll
import Derived.Laws.AppendOwnNone
import Derived.Deep.OwnRows
import Derived.ProofKit
import Derived.OpenShut
import Derived.Maps.AppendAt
/-
  Bytes and numbers of 32 bits as cells; slices of bytes that the call makes itself (append, make, literals), or that came in. Over this seat's translation.
-/
namespace Go.Proofs.Ytbpghogdjpobnaa.Bt
open Go.ChangeShapes Go.WideShapes Go.ChangeAt Go.RowKit Go.Proofs.Ytbpghogdjpobnaa.Mem
set_option linter.unusedVariables false

/-- Bytes, numbers of 32 bits, as cells. -/
def u8s (l : List Nat) : List Value := l.map fun n : Nat => .int .u8 (n : Int)
def u32s (l : List Nat) : List Value := l.map fun n : Nat => .int .u32 (n : Int)
theorem u8s_length (l : List Nat) : (u8s l).length = l.length := List.length_map _
theorem u8s_get {l : List Nat} {i : Nat} (h : i < l.length) : (u8s l)[i]? = some (.int .u8 ((l.getD i 0 : Nat) : Int)) := by simp [u8s, h]
theorem u32s_get {l : List Nat} {i : Nat} (h : i < l.length) : (u32s l)[i]? = some (.int .u32 ((l.getD i 0 : Nat) : Int)) := by simp [u32s, h]
theorem u8s_one (l : List Nat) : OneCells (u8s l) := by intro v hv; simp [u8s] at hv; obtain ⟨n, _, rfl⟩ := hv; rfl
/-- All below a bound. -/
def AllLt (n : Nat) (l : List Nat) : Prop := ∀ x ∈ l, x < n
/-- A slice that the call made itself, of these bytes. -/
structure Own (w : World) (base : Nat) (p : Option Addr) (cap : Nat) (bs : List Nat) : Prop where
  own : w.ownsRow base 5 1 (.slice p bs.length cap) bs.length (u8s bs)
theorem Own.of_slice {w : World} {base : Nat} {v : Value} {bs : List Nat} (h : w.ownsRow base 5 1 v bs.length (u8s bs)) : ∃ p cap, v = .slice p bs.length cap ∧ Own w base p cap bs := by
  rcases h.2 with ⟨hv, hn⟩ | ⟨g, cap, cur, hv, _⟩
  · exact ⟨none, 0, by rw [hv, hn], ⟨by rw [← show v = .slice none bs.length 0 from by rw [hv, hn]]; exact h⟩⟩
  · exact ⟨_, _, hv, ⟨by rw [← hv]; exact h⟩⟩
/-- What it gives: its address, where there is a byte. -/
theorem Own.at {w : World} {base : Nat} {p : Option Addr} {cap : Nat} {bs : List Nat} (h : Own w base p cap bs) : bs.length ≤ cap ∧ (bs ≠ [] → ∃ g o, p = some ⟨g, o, none⟩ ∧ base ≤ g ∧ w.rangeAt g o (u8s bs)) := by
  rcases h.own.2 with ⟨hv, hn⟩ | ⟨g, cap', cur, hv, hg, hh, hc, _, hs, ht⟩
  · refine ⟨by omega, fun hne => absurd (List.eq_nil_of_length_eq_zero hn) hne⟩
  · obtain ⟨rfl, -, rfl⟩ : p = some ⟨g, 0, none⟩ ∧ bs.length = bs.length ∧ cap = cap' := by simpa using hv
    refine ⟨hc, fun _ => ⟨g, 0, rfl, hg, fun j v hj => ?_⟩⟩
    rw [Nat.mul_one] at ht
    rw [Nat.zero_add]
    have hj2 := (List.getElem?_eq_some_iff.1 hj).1
    rw [← ht, List.getElem?_take] at hj
    split at hj
    · simp only [World.cell?, hh]
      simpa using hj
    · cases hj
theorem Own.below {w w' : World} {base : Nat} {p : Option Addr} {cap : Nat} {bs : List Nat} (h : Own w base p cap bs) (hb : Below w.heap.size w w') : Own w' base p cap bs := by
  refine ⟨h.own.1, ?_⟩
  rcases h.own.2 with h2 | ⟨g, cap', cur, hv, hg, hh, r⟩
  · exact .inl h2
  · exact .inr ⟨g, cap', cur, hv, hg, by rw [hb.block g (Array.getElem?_eq_some_iff.1 hh).1]; exact hh, r⟩
section
variable {ops : Array Oper} {rest : List Oper} {o : Oper} {a : Act} {w : World} {Q : Exit → Act → World → Prop}
end
theorem Own.only {w w' : World} {base B : Nat} {p : Option Addr} {cap : Nat} {bs : List Nat} (h : Own w base p cap bs) (ho : Only B w w') (hB : B < base) : Own w' base p cap bs := by
  refine ⟨h.own.1, ?_⟩
  rcases h.own.2 with h2 | ⟨g, cap', cur, hv, hg, hh, r⟩
  · exact .inl h2
  · exact .inr ⟨g, cap', cur, hv, hg, by rw [ho.block g (Array.getElem?_eq_some_iff.1 hh).1 (by omega)]; exact hh, r⟩
theorem Own.bytes {w : World} {base : Nat} {p : Option Addr} {cap : Nat} {bs : List Nat} (h : Own w base p cap bs) : bs ≠ [] → ∃ g o, p = some ⟨g, o, none⟩ ∧ w.rangeAt g o (u8s bs) := fun hne => by
  obtain ⟨g, o, e, _, hr⟩ := h.at.2 hne
  exact ⟨g, o, e, hr⟩
section
variable {ops : Array Oper} {rest : List Oper} {o : Oper} {a : Act} {w : World} {Q : Exit → Act → World → Prop}
end
section
variable {o : Oper} {a : Act}
end
/-- A slice of bytes that came in. -/
structure Came (w : World) (p : Option Addr) (cap : Nat) (bs : List Nat) : Prop where
  cap_ : bs.length ≤ cap
  nil_ : p = none → cap = 0
  at_ : bs ≠ [] → ∃ g o, p = some ⟨g, o, none⟩ ∧ w.rangeAt g o (u8s bs)
  lt_ : AllLt 256 bs
  max_ : cap ≤ maxLen
end Go.Proofs.Ytbpghogdjpobnaa.Bt

/-
  Bytes that can be read through an address; the contract of the document's Same over this seat's translation.
-/
namespace Go.Proofs.Ytbpghogdjpobnaa.Tg
open Go.ChangeShapes Go.WideShapes Go.ChangeAt Go.RowKit Go.Proofs.Ytbpghogdjpobnaa.Mem Go.Proofs.Ytbpghogdjpobnaa.Bt
set_option linter.unusedVariables false

/-- Bytes that can be read through this address. -/
structure Rd (w : World) (p : Option Addr) (bs : List Nat) : Prop where
  at_ : bs ≠ [] → ∃ g o, p = some ⟨g, o, none⟩ ∧ w.rangeAt g o (u8s bs)
theorem Rd.below {w w' : World} {p : Option Addr} {bs : List Nat} (h : Rd w p bs) (hb : Below w.heap.size w w') : Rd w' p bs :=
  ⟨fun hne => by
    obtain ⟨g, o, e, hr⟩ := h.at_ hne
    exact ⟨g, o, e, range_block hr (hb.block g (range_lt hr (by intro h; apply hne; simpa [u8s] using h)))⟩⟩
theorem _root_.Go.Proofs.Ytbpghogdjpobnaa.Bt.Own.rd {w : World} {base : Nat} {p : Option Addr} {cap : Nat} {bs : List Nat} (h : Own w base p cap bs) : Rd w p bs := ⟨h.bytes⟩
theorem _root_.Go.Proofs.Ytbpghogdjpobnaa.Bt.Came.rd {w : World} {p : Option Addr} {cap : Nat} {bs : List Nat} (h : Came w p cap bs) : Rd w p bs := ⟨h.at_⟩
theorem Rd.cell {w : World} {p : Option Addr} {bs : List Nat} (h : Rd w p bs) {i : Nat} (hi : i < bs.length) : ∃ g o, p = some ⟨g, o, none⟩ ∧ w.cell? ⟨g, o + i, none⟩ = some (.int .u8 ((bs.getD i 0 : Nat) : Int)) := by
  obtain ⟨g, o, e, hr⟩ := h.at_ (by intro h; subst h; simp at hi)
  exact ⟨g, o, e, hr i _ (u8s_get hi)⟩

theorem _root_.Go.Proofs.Ytbpghogdjpobnaa.Bt.Came.below {w w' : World} {p : Option Addr} {cap : Nat} {bs : List Nat} (h : Came w p cap bs) (hb : Below w.heap.size w w') : Came w' p cap bs :=
  ⟨h.cap_, h.nil_, (h.rd.below hb).at_, h.lt_, h.max_⟩

end Go.Proofs.Ytbpghogdjpobnaa.Tg

/-
  Slices of numbers of 32 bits: those that the call makes itself (a literal of one number, append), and those that came in. Over this seat's translation.
-/
namespace Go.Proofs.Ytbpghogdjpobnaa.Wd
open Go.ChangeShapes Go.WideShapes Go.ChangeAt Go.RowKit Go.Proofs.Ytbpghogdjpobnaa.Mem Go.Proofs.Ytbpghogdjpobnaa.Bt
set_option linter.unusedVariables false

/-- Numbers that can be read through this address. -/
structure R32 (w : World) (p : Option Addr) (xs : List Nat) : Prop where
  at_ : xs ≠ [] → ∃ g o, p = some ⟨g, o, none⟩ ∧ w.rangeAt g o (u32s xs)
theorem R32.below {w w' : World} {p : Option Addr} {xs : List Nat} (h : R32 w p xs) {n : Nat} (hb : Below n w w') (hn : ∀ g o, p = some ⟨g, o, none⟩ → g < n) : R32 w' p xs :=
  ⟨fun hne => by
    obtain ⟨g, o, e, hr⟩ := h.at_ hne
    exact ⟨g, o, e, range_block hr (hb.block g (hn g o e))⟩⟩
theorem R32.old {w w' : World} {p : Option Addr} {xs : List Nat} (h : R32 w p xs) (hb : Below w.heap.size w w') : R32 w' p xs :=
  ⟨fun hne => by
    obtain ⟨g, o, e, hr⟩ := h.at_ hne
    exact ⟨g, o, e, range_block hr (hb.block g (range_lt hr (by intro h; apply hne; simpa [u32s] using h)))⟩⟩
theorem R32.cell {w : World} {p : Option Addr} {xs : List Nat} (h : R32 w p xs) {i : Nat} (hi : i < xs.length) : ∃ g o, p = some ⟨g, o, none⟩ ∧ w.cell? ⟨g, o + i, none⟩ = some (.int .u32 ((xs.getD i 0 : Nat) : Int)) := by
  obtain ⟨g, o, e, hr⟩ := h.at_ (by intro h; subst h; simp at hi)
  exact ⟨g, o, e, hr i _ (u32s_get hi)⟩
/-- A slice that the call made itself, of these numbers. -/
structure O32 (w : World) (base : Nat) (p : Option Addr) (cap : Nat) (xs : List Nat) : Prop where
  own : w.ownsRow base 66 1 (.slice p xs.length cap) xs.length (u32s xs)
theorem O32.of_slice {w : World} {base : Nat} {v : Value} {xs : List Nat} (h : w.ownsRow base 66 1 v xs.length (u32s xs)) : ∃ p cap, v = .slice p xs.length cap ∧ O32 w base p cap xs := by
  rcases h.2 with ⟨hv, hn⟩ | ⟨g, cap, cur, hv, _⟩
  · exact ⟨none, 0, by rw [hv, hn], ⟨by rw [← show v = .slice none xs.length 0 from by rw [hv, hn]]; exact h⟩⟩
  · exact ⟨_, _, hv, ⟨by rw [← hv]; exact h⟩⟩
theorem O32.old {w w' : World} {base : Nat} {p : Option Addr} {cap : Nat} {xs : List Nat} (h : O32 w base p cap xs) (hb : Below w.heap.size w w') : O32 w' base p cap xs := by
  refine ⟨h.own.1, ?_⟩
  rcases h.own.2 with h2 | ⟨g, cap', cur, hv, hg, hh, r⟩
  · exact .inl h2
  · exact .inr ⟨g, cap', cur, hv, hg, by rw [hb.block g (Array.getElem?_eq_some_iff.1 hh).1]; exact hh, r⟩
theorem O32.only {w w' : World} {base B : Nat} {p : Option Addr} {cap : Nat} {xs : List Nat} (h : O32 w base p cap xs) (ho : Only B w w') (hB : B < base) : O32 w' base p cap xs := by
  refine ⟨h.own.1, ?_⟩
  rcases h.own.2 with h2 | ⟨g, cap', cur, hv, hg, hh, r⟩
  · exact .inl h2
  · exact .inr ⟨g, cap', cur, hv, hg, by rw [ho.block g (Array.getElem?_eq_some_iff.1 hh).1 (by omega)]; exact hh, r⟩
section
variable {o : Oper} {a : Act} {w : World}
section
variable {ops : Array Oper} {Q : Exit → Act → World → Prop}
end
section
variable {P : Program} {ops : Array Oper} {rest : List Oper} {Q : Exit → Act → World → Prop}
end
end
end Go.Proofs.Ytbpghogdjpobnaa.Wd
