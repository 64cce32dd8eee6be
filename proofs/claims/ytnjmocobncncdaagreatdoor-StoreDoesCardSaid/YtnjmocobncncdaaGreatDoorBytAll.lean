import Derived.Test.YtnjmocobncncdaaGreatDoorRows
import Derived.Test.YtnjmocobncncdaaGreatDoorMemAll
import Derived.Laws.AppendOwnNone
import Derived.Deep.OwnRows
import Derived.ProofKit
import Derived.OpenShut
import Derived.Maps.AppendAt
/-
  Bytes and numbers of 32 bits as cells; slices of bytes that the call makes itself (append, make, literals), or that came in. Over this seat's translation.
-/
namespace Go.Proofs.YtnjmocobncncdaaGreatDoor.Bt
open Go.ChangeShapes Go.WideShapes Go.ChangeAt Go.RowKit Go.Proofs.YtnjmocobncncdaaGreatDoor.Mem
set_option linter.unusedVariables false

/-- Bytes, numbers of 32 bits, as cells. -/
def u8s (l : List Nat) : List Value := l.map fun n : Nat => .int .u8 (n : Int)
def u32s (l : List Nat) : List Value := l.map fun n : Nat => .int .u32 (n : Int)
theorem u8s_length (l : List Nat) : (u8s l).length = l.length := List.length_map _
theorem u32s_length (l : List Nat) : (u32s l).length = l.length := List.length_map _
theorem u8s_append (l m : List Nat) : u8s (l ++ m) = u8s l ++ u8s m := List.map_append
theorem u32s_append (l m : List Nat) : u32s (l ++ m) = u32s l ++ u32s m := List.map_append
theorem u8s_get {l : List Nat} {i : Nat} (h : i < l.length) : (u8s l)[i]? = some (.int .u8 ((l.getD i 0 : Nat) : Int)) := by simp [u8s, h]
theorem u32s_get {l : List Nat} {i : Nat} (h : i < l.length) : (u32s l)[i]? = some (.int .u32 ((l.getD i 0 : Nat) : Int)) := by simp [u32s, h]
theorem u8s_one (l : List Nat) : OneCells (u8s l) := by intro v hv; simp [u8s] at hv; obtain ⟨n, _, rfl⟩ := hv; rfl
theorem u32s_one (l : List Nat) : OneCells (u32s l) := by intro v hv; simp [u32s] at hv; obtain ⟨n, _, rfl⟩ := hv; rfl

/-- All below a bound. -/
def AllLt (n : Nat) (l : List Nat) : Prop := ∀ x ∈ l, x < n
theorem getD_lt {n : Nat} {l : List Nat} (h : AllLt n l) (hn : 0 < n) (i : Nat) : l.getD i 0 < n := by
  by_cases hi : i < l.length
  · rw [List.getD_eq_getElem?_getD, List.getElem?_eq_getElem hi]; exact h _ (List.getElem_mem hi)
  · rw [List.getD_eq_getElem?_getD, List.getElem?_eq_none (by omega)]; exact hn
theorem append_lt {n : Nat} {l m : List Nat} (h : AllLt n l) (g : AllLt n m) : AllLt n (l ++ m) := fun x hx => by
  rcases List.mem_append.1 hx with h1 | h1
  · exact h x h1
  · exact g x h1
theorem set_get (cs : List Value) (v : Value) (i : Nat) (h : i < cs.length) : (cs.set i v)[i]? = some v := by simp [h]
theorem lay_u8s (A B : List Nat) (o : Nat) : lay (u8s A) o (u8s B) = u8s (A.take o ++ B ++ A.drop (o + B.length)) := by
  unfold lay
  rw [u8s_length, u8s_append, u8s_append]
  unfold u8s
  rw [List.map_take, List.map_drop]
theorem info5 : (Tryz.prog.info? 5).map (fun i => (i.zero, i.size, i.bytes)) = some (some (.int .u8 0), 1, 1) := by kernel_rfl
/-- A slice that the call made itself, of these bytes. -/
structure Own (w : World) (base : Nat) (p : Option Addr) (cap : Nat) (bs : List Nat) : Prop where
  own : w.ownsRow base 5 1 (.slice p bs.length cap) bs.length (u8s bs)
theorem Own.of_slice {w : World} {base : Nat} {v : Value} {bs : List Nat} (h : w.ownsRow base 5 1 v bs.length (u8s bs)) : ∃ p cap, v = .slice p bs.length cap ∧ Own w base p cap bs := by
  rcases h.2 with ⟨hv, hn⟩ | ⟨g, cap, cur, hv, _⟩
  · exact ⟨none, 0, by rw [hv, hn], ⟨by rw [← show v = .slice none bs.length 0 from by rw [hv, hn]]; exact h⟩⟩
  · exact ⟨_, _, hv, ⟨by rw [← hv]; exact h⟩⟩
/-- What it gives: its address, where there is a byte. -/
theorem Own.at {w : World} {base : Nat} {p : Option Addr} {cap : Nat} {bs : List Nat} (h : Own w base p cap bs) : bs.length ≤ cap ∧ (bs ≠ [] → ∃ g o, p = some ⟨g, o, none⟩ ∧ base ≤ g ∧ w.rangeAt g o (u8s bs)) := by
  rcases h.own.2 with ⟨hv, hn⟩ | ⟨g, cap', cur, hv, hg, hh, hc, _, hs, ht⟩
  · refine ⟨by omega, fun hne => absurd (List.eq_nil_of_length_eq_zero hn) hne⟩
  · obtain ⟨rfl, -, rfl⟩ : p = some ⟨g, 0, none⟩ ∧ bs.length = bs.length ∧ cap = cap' := by simpa using hv
    refine ⟨hc, fun _ => ⟨g, 0, rfl, hg, fun j v hj => ?_⟩⟩
    rw [Nat.mul_one] at ht
    rw [Nat.zero_add]
    have hj2 := (List.getElem?_eq_some_iff.1 hj).1
    rw [← ht, List.getElem?_take] at hj
    split at hj
    · simp only [World.cell?, hh]
      simpa using hj
    · cases hj
theorem Own.below {w w' : World} {base : Nat} {p : Option Addr} {cap : Nat} {bs : List Nat} (h : Own w base p cap bs) (hb : Below w.heap.size w w') : Own w' base p cap bs := by
  refine ⟨h.own.1, ?_⟩
  rcases h.own.2 with h2 | ⟨g, cap', cur, hv, hg, hh, r⟩
  · exact .inl h2
  · exact .inr ⟨g, cap', cur, hv, hg, by rw [hb.block g (Array.getElem?_eq_some_iff.1 hh).1]; exact hh, r⟩
section
variable {ops : Array Oper} {rest : List Oper} {o : Oper} {a : Act} {w : World} {Q : Exit → Act → World → Prop}
/-- 'append(s, x...)' of bytes onto a slice of the call's own. -/
theorem arm_append (hgd : o.guard = none) (s x : Operand) (ho : o.op = .call { callee := .builtin .append, args := #[s, x], argTypes := #[80, 80] }) (base : Nat) (p : Option Addr) (n cap : Nat) (bs : List Nat) (hn : n = bs.length)
    (hs : a.eval s = .slice p n cap) (hown : Own w base p cap bs) (q : Option Addr) (m c : Nat) (ys : List Nat) (hx : a.eval x = .slice q m c) (hm : m = ys.length) (hq : q = none → m = 0 ∧ c = 0)
    (hy : ys ≠ [] → ∃ g go, q = some ⟨g, go, none⟩ ∧ w.rangeAt g go (u8s ys)) (hz : bs.length + ys.length ≤ 1000000000) (hb : base ≤ w.heap.size)
    (h : ∀ p' cap' w', Own w' base p' cap' (bs ++ ys) → Below base w w' → wpList Tryz.prog ops Q rest (a.put o.dst (.slice p' (n + m) cap')) w') : wpList Tryz.prog ops Q (o :: rest) a w := by
  subst hm hn
  rw [← List.length_append] at h
  obtain ⟨i0, hi, hz0, hz1, hz2⟩ := info_parts info5
  cases q with
  | none =>
    obtain ⟨h0, rfl⟩ := hq rfl
    have hnil : ys = [] := List.eq_nil_of_length_eq_zero h0
    subst hnil
    refine wpList_append_own_none hgd s x 80 ho base 5 i0 1 (by kernel_rfl) hi _ _ _ hs hown.own hx ?_
    have := h p cap w (by rw [List.append_nil]; exact hown) (Below.refl _ _)
    rw [List.append_nil] at this
    exact this
  | some ad =>
    have hnews : ∀ j u, (u8s ys)[j]? = some u → w.cell? (ad.add j) = some u := by
      intro j u hj
      have hne : ys ≠ [] := by intro e; subst e; simp [u8s] at hj
      obtain ⟨g, go, e, hr⟩ := hy hne
      have e' : ad = ⟨g, go, none⟩ := Option.some.inj e
      rw [e', Addr.add_mid]
      exact hr j u hj
    refine wpList_append_own w hgd s x 80 ho base 5 i0 (.int .u8 0) 1 1 (by kernel_rfl) hi hz0 hz1 hz2 rfl (by decide) _ _ _ hs hown.own ad ys.length c (u8s ys) hx (by rw [u8s_length, Nat.mul_one]) hnews (u8s_one _) (by unfold maxLen; omega) (by omega) hb ?_
    intro v' w' hown' hgrow _
    rw [← u8s_append, ← List.length_append] at hown'
    obtain ⟨p', cap', hv, hO⟩ := Own.of_slice hown'
    rw [hv]
    refine h p' cap' w' hO ⟨hgrow.os, hgrow.tape, hgrow.output, hgrow.size, fun k hk => hgrow.block k (by omega) (fun e => ?_)⟩
    rcases hown.own.2 with ⟨hv0, _⟩ | ⟨g, cap0, cur, hv0, hg, _⟩
    · rw [hv0] at e; cases e
    · rw [hv0] at e
      have : k = g := Option.some.inj e
      omega
/-- A slice that is written out. -/
theorem arm_buildSlice (hgd : o.guard = none) (n : Nat) (parts : Array (Nat × Operand)) (ho : o.op = .buildSlice 80 n parts) (vs : List Value) (pv : Array (Nat × Value)) (hpv : (parts.map fun (i, x) => (i, a.eval x)) = pv)
    (hr : ∀ w : World, (Instr.buildSlice 80 n pv).run Tryz.prog w = .ok (.slice (some ⟨w.heap.size, 0, none⟩) n n) (w.alloc (.cells vs.toArray 5)))
    (h : ∀ b w2, Hid (b = w.heap.size) → Row w2 b 5 vs → New w w2 → wpList Tryz.prog ops Q rest (a.put o.dst (.slice (some ⟨b, 0, none⟩) n n)) w2) : wpList Tryz.prog ops Q (o :: rest) a w := by
  refine wpList_plain hgd fun K hK => ?_
  unfold Oper.wp execOp
  simp only [ho, hpv, Sem.run_bind, hr w, Result.andThen_ok, Sem.run_pure]
  exact hK _ _ (h _ _ rfl (heap_alloc_new _ _) (new_alloc _ _))
end
theorem bs0 (w : World) : (Instr.buildSlice 80 0 #[]).run Tryz.prog w = .ok (.slice (some ⟨w.heap.size, 0, none⟩) 0 0) (w.alloc (.cells #[] 5)) := by kernel_rfl
theorem bs1 (v : Int) (w : World) : (Instr.buildSlice 80 1 #[(0, .int .u8 v)]).run Tryz.prog w = .ok (.slice (some ⟨w.heap.size, 0, none⟩) 1 1) (w.alloc (.cells #[.int .u8 v] 5)) := by kernel_rfl
/-- A new slice without bytes. -/
theorem own_new {w2 : World} {b base : Nat} (hr : Row w2 b 5 []) (hb : base ≤ b) : Own w2 base (some ⟨b, 0, none⟩) 0 [] :=
  ⟨rfl, .inr ⟨b, 0, #[], rfl, hb, hr, Nat.le_refl _, by unfold maxLen; omega, rfl, rfl⟩⟩
theorem Own.only {w w' : World} {base B : Nat} {p : Option Addr} {cap : Nat} {bs : List Nat} (h : Own w base p cap bs) (ho : Only B w w') (hB : B < base) : Own w' base p cap bs := by
  refine ⟨h.own.1, ?_⟩
  rcases h.own.2 with h2 | ⟨g, cap', cur, hv, hg, hh, r⟩
  · exact .inl h2
  · exact .inr ⟨g, cap', cur, hv, hg, by rw [ho.block g (Array.getElem?_eq_some_iff.1 hh).1 (by omega)]; exact hh, r⟩
theorem own_nil (w : World) (base : Nat) : Own w base none 0 [] := ⟨rfl, .inl ⟨rfl, rfl⟩⟩
theorem Own.bytes {w : World} {base : Nat} {p : Option Addr} {cap : Nat} {bs : List Nat} (h : Own w base p cap bs) : bs ≠ [] → ∃ g o, p = some ⟨g, o, none⟩ ∧ w.rangeAt g o (u8s bs) := fun hne => by
  obtain ⟨g, o, e, _, hr⟩ := h.at.2 hne
  exact ⟨g, o, e, hr⟩
section
variable {ops : Array Oper} {rest : List Oper} {o : Oper} {a : Act} {w : World} {Q : Exit → Act → World → Prop}
end
section
variable {o : Oper} {a : Act}
end
/-- A slice of bytes that came in. -/
structure Came (w : World) (p : Option Addr) (cap : Nat) (bs : List Nat) : Prop where
  cap_ : bs.length ≤ cap
  nil_ : p = none → cap = 0
  at_ : bs ≠ [] → ∃ g o, p = some ⟨g, o, none⟩ ∧ w.rangeAt g o (u8s bs)
  lt_ : AllLt 256 bs
  max_ : cap ≤ maxLen
end Go.Proofs.YtnjmocobncncdaaGreatDoor.Bt

/-
  Bytes that can be read through an address; the contract of the document's Same over this seat's translation.
-/
namespace Go.Proofs.YtnjmocobncncdaaGreatDoor.Tg
open Go.ChangeShapes Go.WideShapes Go.ChangeAt Go.RowKit Go.Proofs.YtnjmocobncncdaaGreatDoor.Mem Go.Proofs.YtnjmocobncncdaaGreatDoor.Bt
set_option linter.unusedVariables false

/-- Bytes that can be read through this address. -/
structure Rd (w : World) (p : Option Addr) (bs : List Nat) : Prop where
  at_ : bs ≠ [] → ∃ g o, p = some ⟨g, o, none⟩ ∧ w.rangeAt g o (u8s bs)
theorem Rd.below {w w' : World} {p : Option Addr} {bs : List Nat} (h : Rd w p bs) (hb : Below w.heap.size w w') : Rd w' p bs :=
  ⟨fun hne => by
    obtain ⟨g, o, e, hr⟩ := h.at_ hne
    exact ⟨g, o, e, range_block hr (hb.block g (range_lt hr (by intro h; apply hne; simpa [u8s] using h)))⟩⟩
theorem _root_.Go.Proofs.YtnjmocobncncdaaGreatDoor.Bt.Own.rd {w : World} {base : Nat} {p : Option Addr} {cap : Nat} {bs : List Nat} (h : Own w base p cap bs) : Rd w p bs := ⟨h.bytes⟩
theorem _root_.Go.Proofs.YtnjmocobncncdaaGreatDoor.Bt.Came.rd {w : World} {p : Option Addr} {cap : Nat} {bs : List Nat} (h : Came w p cap bs) : Rd w p bs := ⟨h.at_⟩
theorem Rd.cell {w : World} {p : Option Addr} {bs : List Nat} (h : Rd w p bs) {i : Nat} (hi : i < bs.length) : ∃ g o, p = some ⟨g, o, none⟩ ∧ w.cell? ⟨g, o + i, none⟩ = some (.int .u8 ((bs.getD i 0 : Nat) : Int)) := by
  obtain ⟨g, o, e, hr⟩ := h.at_ (by intro h; subst h; simp at hi)
  exact ⟨g, o, e, hr i _ (u8s_get hi)⟩

theorem _root_.Go.Proofs.YtnjmocobncncdaaGreatDoor.Bt.Came.below {w w' : World} {p : Option Addr} {cap : Nat} {bs : List Nat} (h : Came w p cap bs) (hb : Below w.heap.size w w') : Came w' p cap bs :=
  ⟨h.cap_, h.nil_, (h.rd.below hb).at_, h.lt_, h.max_⟩

/-- A new slice of bytes. -/
theorem own_row {w2 : World} {b base : Nat} {bs : List Nat} (hr : Row w2 b 5 (u8s bs)) (hb : base ≤ b) (hm : bs.length ≤ 1000000) : Own w2 base (some ⟨b, 0, none⟩) bs.length bs :=
  ⟨by rw [u8s_length, Nat.mul_one], .inr ⟨b, bs.length, (u8s bs).toArray, rfl, hb, hr, Nat.le_refl _, by unfold maxLen; omega, by simp [u8s_length], by simp [List.take_of_length_le, u8s_length]⟩⟩
end Go.Proofs.YtnjmocobncncdaaGreatDoor.Tg

/-
  Slices of numbers of 32 bits: those that the call makes itself (a literal of one number, append), and those that came in. Over this seat's translation.
-/
namespace Go.Proofs.YtnjmocobncncdaaGreatDoor.Wd
open Go.ChangeShapes Go.WideShapes Go.ChangeAt Go.RowKit Go.Proofs.YtnjmocobncncdaaGreatDoor.Mem Go.Proofs.YtnjmocobncncdaaGreatDoor.Bt
set_option linter.unusedVariables false

/-- Numbers that can be read through this address. -/
structure R32 (w : World) (p : Option Addr) (xs : List Nat) : Prop where
  at_ : xs ≠ [] → ∃ g o, p = some ⟨g, o, none⟩ ∧ w.rangeAt g o (u32s xs)
theorem R32.below {w w' : World} {p : Option Addr} {xs : List Nat} (h : R32 w p xs) {n : Nat} (hb : Below n w w') (hn : ∀ g o, p = some ⟨g, o, none⟩ → g < n) : R32 w' p xs :=
  ⟨fun hne => by
    obtain ⟨g, o, e, hr⟩ := h.at_ hne
    exact ⟨g, o, e, range_block hr (hb.block g (hn g o e))⟩⟩
theorem R32.old {w w' : World} {p : Option Addr} {xs : List Nat} (h : R32 w p xs) (hb : Below w.heap.size w w') : R32 w' p xs :=
  ⟨fun hne => by
    obtain ⟨g, o, e, hr⟩ := h.at_ hne
    exact ⟨g, o, e, range_block hr (hb.block g (range_lt hr (by intro h; apply hne; simpa [u32s] using h)))⟩⟩
theorem R32.cell {w : World} {p : Option Addr} {xs : List Nat} (h : R32 w p xs) {i : Nat} (hi : i < xs.length) : ∃ g o, p = some ⟨g, o, none⟩ ∧ w.cell? ⟨g, o + i, none⟩ = some (.int .u32 ((xs.getD i 0 : Nat) : Int)) := by
  obtain ⟨g, o, e, hr⟩ := h.at_ (by intro h; subst h; simp at hi)
  exact ⟨g, o, e, hr i _ (u32s_get hi)⟩
/-- A slice that the call made itself, of these numbers. -/
structure O32 (w : World) (base : Nat) (p : Option Addr) (cap : Nat) (xs : List Nat) : Prop where
  own : w.ownsRow base 33 1 (.slice p xs.length cap) xs.length (u32s xs)
theorem O32.of_slice {w : World} {base : Nat} {v : Value} {xs : List Nat} (h : w.ownsRow base 33 1 v xs.length (u32s xs)) : ∃ p cap, v = .slice p xs.length cap ∧ O32 w base p cap xs := by
  rcases h.2 with ⟨hv, hn⟩ | ⟨g, cap, cur, hv, _⟩
  · exact ⟨none, 0, by rw [hv, hn], ⟨by rw [← show v = .slice none xs.length 0 from by rw [hv, hn]]; exact h⟩⟩
  · exact ⟨_, _, hv, ⟨by rw [← hv]; exact h⟩⟩
theorem O32.old {w w' : World} {base : Nat} {p : Option Addr} {cap : Nat} {xs : List Nat} (h : O32 w base p cap xs) (hb : Below w.heap.size w w') : O32 w' base p cap xs := by
  refine ⟨h.own.1, ?_⟩
  rcases h.own.2 with h2 | ⟨g, cap', cur, hv, hg, hh, r⟩
  · exact .inl h2
  · exact .inr ⟨g, cap', cur, hv, hg, by rw [hb.block g (Array.getElem?_eq_some_iff.1 hh).1]; exact hh, r⟩
theorem O32.only {w w' : World} {base B : Nat} {p : Option Addr} {cap : Nat} {xs : List Nat} (h : O32 w base p cap xs) (ho : Only B w w') (hB : B < base) : O32 w' base p cap xs := by
  refine ⟨h.own.1, ?_⟩
  rcases h.own.2 with h2 | ⟨g, cap', cur, hv, hg, hh, r⟩
  · exact .inl h2
  · exact .inr ⟨g, cap', cur, hv, hg, by rw [ho.block g (Array.getElem?_eq_some_iff.1 hh).1 (by omega)]; exact hh, r⟩
section
variable {o : Oper} {a : Act} {w : World}
section
variable {ops : Array Oper} {Q : Exit → Act → World → Prop}
end
section
variable {P : Program} {ops : Array Oper} {rest : List Oper} {Q : Exit → Act → World → Prop}
end
end
end Go.Proofs.YtnjmocobncncdaaGreatDoor.Wd
