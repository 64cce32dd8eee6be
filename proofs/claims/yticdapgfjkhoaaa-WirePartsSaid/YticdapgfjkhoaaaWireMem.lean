/-
  Slices of bytes that grow beside others; a writer's memory: its struct, and the bytes that it holds. Over this seat's translation.
-/
import Derived.Test.YticdapgfjkhoaaaSame
import Derived.Test.YticdapgfjkhoaaaMemRows
import Derived.Test.YticdapgfjkhoaaaWireSpec
import Derived.Maps.AppendAt
namespace Go.Proofs.Yticdapgfjkhoaaa.Wi
open Go.ChangeShapes Go.WideShapes Go.ChangeAt Go.RowKit Go.Proofs.Yticdapgfjkhoaaa.Mem Go.Proofs.Yticdapgfjkhoaaa.Bt Go.Proofs.Yticdapgfjkhoaaa.Tg
set_option linter.unusedVariables false

/-- The block in which a slice lies. -/
def blk (p : Option Addr) : Option Nat := p.map (·.block)
/-- A slice at p has become one at p'; struct W may have changed, too; no other block that was there. -/
structure Step (W : Option Nat) (p p' : Option Addr) (w w' : World) : Prop where
  os : w'.os = w.os
  tape : w'.tape = w.tape
  output : w'.output = w.output
  size : w.heap.size ≤ w'.heap.size
  block : ∀ k, k < w.heap.size → W ≠ some k → blk p ≠ some k → w'.heap[k]? = w.heap[k]?
  next : blk p' = blk p ∨ ∃ g, blk p' = some g ∧ w.heap.size ≤ g
theorem Step.refl (W : Option Nat) (p : Option Addr) (w : World) : Step W p p w w := ⟨rfl, rfl, rfl, Nat.le_refl _, fun _ _ _ _ => rfl, .inl rfl⟩
theorem Step.trans {W : Option Nat} {p p1 p2 : Option Addr} {w w1 w2 : World} (h : Step W p p1 w w1) (g : Step W p1 p2 w1 w2) : Step W p p2 w w2 :=
  ⟨g.os.trans h.os, g.tape.trans h.tape, g.output.trans h.output, Nat.le_trans h.size g.size, fun k hk h1 h2 => by
    have hk1 : blk p1 ≠ some k := by
      rcases h.next with e | ⟨b, e, hb⟩
      · rw [e]; exact h2
      · rw [e]; intro e'; have := Option.some.inj e'; omega
    exact (g.block k (Nat.lt_of_lt_of_le hk h.size) h1 hk1).trans (h.block k hk h1 h2), by
    rcases g.next with e | ⟨b, e, hb⟩
    · rcases h.next with e2 | ⟨b, e2, hb⟩
      · exact .inl (e.trans e2)
      · exact .inr ⟨b, e.trans e2, hb⟩
    · exact .inr ⟨b, e, Nat.le_trans h.size hb⟩⟩
theorem Step.of_below (W : Option Nat) (p : Option Addr) {w w' : World} (h : Below w.heap.size w w') : Step W p p w w' := ⟨h.os, h.tape, h.output, h.size, fun k hk _ _ => h.block k hk, .inl rfl⟩
theorem Step.of_only (W : Nat) (p : Option Addr) {w w' : World} (h : Only W w w') : Step (some W) p p w w' := ⟨h.os, h.tape, h.output, h.size, fun k hk h1 _ => h.block k hk (fun e => h1 (by rw [e])), .inl rfl⟩
theorem Step.some_ (W : Option Nat) {p p' : Option Addr} {w w' : World} (h : Step none p p' w w') : Step W p p' w w' := ⟨h.os, h.tape, h.output, h.size, fun k hk _ h2 => h.block k hk (by simp) h2, h.next⟩
theorem Step.below {W : Option Nat} {p p' : Option Addr} {w w' : World} {base : Nat} (h : Step W p p' w w') (hW : ∀ k, W = some k → base ≤ k) (hp : ∀ k, blk p = some k → base ≤ k) (hb : base ≤ w.heap.size) : Below base w w' :=
  ⟨h.os, h.tape, h.output, h.size, fun k hk => h.block k (by omega) (fun e => by have := hW k e; omega) (fun e => by have := hp k e; omega)⟩
/-- Where its own bytes lie. -/
theorem own_blk {w : World} {base : Nat} {p : Option Addr} {cap : Nat} {bs : List Nat} (h : Own w base p cap bs) {g : Nat} (hg : blk p = some g) : base ≤ g ∧ g < w.heap.size ∧ ∃ cur, w.heap[g]? = some (.cells cur 5 (0, 0)) := by
  rcases h.own.2 with ⟨hv, hn⟩ | ⟨g', cap', cur, hv, hb, hh, _⟩
  · have : p = none := by simpa using (Value.slice.inj hv).1
    subst this; simp [blk] at hg
  · have : p = some ⟨g', 0, none⟩ := (Value.slice.inj hv).1
    subst this
    have : g' = g := by simpa [blk] using hg
    subst this
    exact ⟨hb, (Array.getElem?_eq_some_iff.1 hh).1, cur, hh⟩
theorem own_mono {w : World} {base base' : Nat} {p : Option Addr} {cap : Nat} {bs : List Nat} (h : Own w base p cap bs) (hb : base' ≤ base) : Own w base' p cap bs := by
  refine ⟨h.own.1, ?_⟩
  rcases h.own.2 with h2 | ⟨g, cap', cur, hv, hg, r⟩
  · exact .inl h2
  · exact .inr ⟨g, cap', cur, hv, Nat.le_trans hb hg, r⟩
theorem own_low {w : World} {base : Nat} {p : Option Addr} {cap : Nat} {bs : List Nat} (h : Own w base p cap bs) : ∀ k, blk p = some k → base ≤ k := fun k hk => (own_blk h hk).1
/-- A struct lies elsewhere than bytes. -/
theorem row_not_own {w : World} {base W : Nat} {t : TypeId} {cs : List Value} {p : Option Addr} {cap : Nat} {bs : List Nat} (hr : Row w W t cs) (ht : t ≠ 5) (h : Own w base p cap bs) : blk p ≠ some W := fun e => by
  obtain ⟨_, _, cur, hh⟩ := own_blk h e
  have := Option.some.inj ((show w.heap[W]? = _ from hr).symm.trans hh)
  exact ht (Obj.cells.inj this).2.1
/-- Two slices in blocks of their own. -/
def Sep (p q : Option Addr) : Prop := ∀ k, blk p = some k → blk q ≠ some k
theorem Sep.symm {p q : Option Addr} (h : Sep p q) : Sep q p := fun k hq hp => h k hp hq
theorem Sep.next {W : Option Nat} {p p' q : Option Addr} {w w' : World} {base c : Nat} {ws : List Nat} (h : Sep p q) (hs : Step W p p' w w') (ho : Own w base q c ws) : Sep p' q := fun k hk hq => by
  rcases hs.next with e | ⟨g, e, hg⟩
  · exact h k (e ▸ hk) hq
  · have h1 := (own_blk ho hq).2.1
    have : g = k := Option.some.inj (e.symm.trans hk)
    omega
theorem own_step {W : Option Nat} {p p' q : Option Addr} {w w' : World} {base c : Nat} {ws : List Nat} (ho : Own w base q c ws) (hs : Step W p p' w w') (h : Sep p q) (hW : ∀ k, W = some k → blk q ≠ some k) : Own w' base q c ws := by
  refine ⟨ho.own.1, ?_⟩
  rcases ho.own.2 with h2 | ⟨g, cap', cur, hv, hg, hh, r⟩
  · exact .inl h2
  · have hq : blk q = some g := by rw [(Value.slice.inj hv).1]; rfl
    exact .inr ⟨g, cap', cur, hv, hg, by rw [hs.block g (Array.getElem?_eq_some_iff.1 hh).1 (fun e => hW g e hq) (fun e => h g e hq)]; exact hh, r⟩
section
variable {ops : Array Oper} {rest : List Oper} {o : Oper} {a : Act} {w : World} {Q : Exit → Act → World → Prop}
/-- 'append(s, x...)' of bytes onto a slice of the call's own; what else has changed. -/
theorem arm_append2 (hgd : o.guard = none) (s x : Operand) (ho : o.op = .call { callee := .builtin .append, args := #[s, x], argTypes := #[26, 26] }) (base : Nat) (p : Option Addr) (n cap : Nat) (bs : List Nat) (hn : n = bs.length)
    (hs : a.eval s = .slice p n cap) (hown : Own w base p cap bs) (q : Option Addr) (m c : Nat) (ys : List Nat) (hx : a.eval x = .slice q m c) (hm : m = ys.length) (hq : q = none → m = 0 ∧ c = 0)
    (hy : ys ≠ [] → ∃ g go, q = some ⟨g, go, none⟩ ∧ w.rangeAt g go (u8s ys)) (hz : bs.length + ys.length ≤ 1000000000) (hb : base ≤ w.heap.size)
    (h : ∀ p' cap' w', Own w' base p' cap' (bs ++ ys) → Step none p p' w w' → wpList Try.prog ops Q rest (a.put o.dst (.slice p' (n + m) cap')) w') : wpList Try.prog ops Q (o :: rest) a w := by
  subst hm hn
  rw [← List.length_append] at h
  obtain ⟨i0, hi, hz0, hz1, hz2⟩ := info_parts info5
  cases q with
  | none =>
    obtain ⟨h0, rfl⟩ := hq rfl
    have hnil : ys = [] := List.eq_nil_of_length_eq_zero h0
    subst hnil
    refine wpList_append_own_none hgd s x 26 ho base 5 i0 1 (by kernel_rfl) hi _ _ _ hs hown.own hx ?_
    have := h p cap w (by rw [List.append_nil]; exact hown) (Step.refl _ _ _)
    rw [List.append_nil] at this
    exact this
  | some ad =>
    have hnews : ∀ j u, (u8s ys)[j]? = some u → w.cell? (ad.add j) = some u := by
      intro j u hj
      have hne : ys ≠ [] := by intro e; subst e; simp [u8s] at hj
      obtain ⟨g, go, e, hr⟩ := hy hne
      have e' : ad = ⟨g, go, none⟩ := Option.some.inj e
      rw [e', Addr.add_mid]
      exact hr j u hj
    refine wpList_append_own_at w hgd s x 26 ho base 5 i0 (.int .u8 0) 1 1 (by kernel_rfl) hi hz0 hz1 hz2 rfl (by decide) _ _ _ hs hown.own ad ys.length c (u8s ys) hx (by rw [u8s_length, Nat.mul_one]) hnews (u8s_one _) (by unfold maxLen; omega) (by omega) hb ?_
    intro v' w' hown' hgrow _ hat
    rw [← u8s_append, ← List.length_append] at hown'
    obtain ⟨p', cap', hv, hO⟩ := Own.of_slice hown'
    have e1 : ∀ (p : Option Addr) (n c : Nat), (Value.slice p n c).ownBlock = blk p := fun p n c => by cases p <;> rfl
    rw [hv, e1, e1] at hat
    rw [e1] at hgrow
    rw [hv]
    refine h p' cap' w' hO ⟨hgrow.os, hgrow.tape, hgrow.output, hgrow.size, fun k hk _ h2 => hgrow.block k hk (fun e => h2 e.symm), ?_⟩
    rcases hat with e | e
    · exact .inl e
    · exact .inr ⟨_, e, Nat.le_refl _⟩
end
/-- A writer that has written these bytes. -/
structure Wr (w : World) (base W : Nat) (p : Option Addr) (cap : Nat) (bs : List Nat) : Prop where
  row : Row w W 28 [.slice p bs.length cap]
  own : Own w base p cap bs
  low : base ≤ W
theorem Wr.lt {w : World} {base W : Nat} {p : Option Addr} {cap : Nat} {bs : List Nat} (h : Wr w base W p cap bs) : W < w.heap.size := h.row.lt
theorem Wr.apart {w : World} {base W : Nat} {p : Option Addr} {cap : Nat} {bs : List Nat} (h : Wr w base W p cap bs) : blk p ≠ some W := row_not_own h.row (by decide) h.own
theorem Wr.old {w w' : World} {base W : Nat} {p : Option Addr} {cap : Nat} {bs : List Nat} (h : Wr w base W p cap bs) (hb : Below w.heap.size w w') : Wr w' base W p cap bs := ⟨h.row.old hb, h.own.below hb, h.low⟩
/-- Another writer is left as it was. -/
theorem Wr.other {w w' : World} {base W W2 : Nat} {p p' q : Option Addr} {cap c : Nat} {bs ws : List Nat} (h2 : Wr w base W2 q c ws) (h : Wr w base W p cap bs) (hs : Step (some W) p p' w w') (hne : W2 ≠ W) (hsep : Sep p q) : Wr w' base W2 q c ws :=
  ⟨h2.row.of_block (hs.block W2 h2.lt (fun e => hne (Option.some.inj e).symm) (row_not_own h2.row (by decide) h.own)), own_step h2.own hs hsep (fun k hk => by rw [← Option.some.inj hk]; exact row_not_own h.row (by decide) h2.own), h2.low⟩
theorem Wr.below {w w' : World} {base W : Nat} {p p' : Option Addr} {cap : Nat} {bs : List Nat} (h : Wr w base W p cap bs) (hs : Step (some W) p p' w w') (hb : base ≤ w.heap.size) : Below base w w' :=
  hs.below (fun k hk => by rw [← Option.some.inj hk]; exact h.low) (own_low h.own) hb
/-- What writing leaves. -/
structure WrPost (w : World) (base W : Nat) (p : Option Addr) (v : Value) (bs : List Nat) (e : Ending) (w' : World) : Prop where
  ex : e = .returned v ∧ ∃ p' cap', Wr w' base W p' cap' bs ∧ Step (some W) p p' w w'
theorem zero_wr : Mem.Zero Try.prog 28 [.slice none 0 0] := by unfold Mem.Zero; kernel_rfl
theorem wr_new {w : World} {base W : Nat} (hr : Row w W 28 [.slice none 0 0]) (hb : base ≤ W) : Wr w base W none 0 [] := ⟨hr, own_nil w base, hb⟩
/-- One more store of the struct behind the growth of its bytes. -/
theorem wr_stored {w w1 w2 : World} {base W : Nat} {p p' : Option Addr} {cap' : Nat} {bs' : List Nat} {v : Value} (hr : Row w W 28 [v]) (hp : blk p ≠ some W) (hs : Step none p p' w w1) (ho : Own w1 base p' cap' bs') (hl : base ≤ W)
    (hr2 : Row w2 W 28 [.slice p' bs'.length cap']) (ho2 : Only W w1 w2) : Wr w2 base W p' cap' bs' ∧ Step (some W) p p' w w2 := by
  have hr1 : Row w1 W 28 [v] := hr.of_block (hs.block W hr.lt (by simp) hp)
  refine ⟨⟨hr2, own_step ho (Step.of_only W none ho2) (fun k hk => by simp [blk] at hk) (fun k hk => by rw [← Option.some.inj hk]; exact row_not_own hr1 (by decide) ho), hl⟩, (hs.some_ _).trans (Step.of_only W p' ho2)⟩

set_option maxRecDepth 100000 in
theorem wByte_any (n : Nat) (base W : Nat) (p : Option Addr) (cap : Nat) (bs : List Nat) (w : World) (h : Wr w base W p cap bs) (hb : base ≤ w.heap.size) (hl : bs.length ≤ 1000000) :
    Calls Try.prog 30 #[.pointer (some ⟨W, 0, none⟩), .int .u8 (n : Int)] w (WrPost w base W p (.tuple #[]) (bs ++ [n])) := by
  have H := Lib.hid h
  have hc : w.cell? ⟨W, 0, none⟩ = some (.slice p bs.length cap) := h.row.cell rfl
  clear h
  go_enter Try.func30, Try.ntmps30
  go_wp2_with (first
    | ((with_reducible refine at_slot 10 ?_); (refine arm_buildSlice (o := ⟨some 10, _, _, _, _, _⟩) rfl 1 _ rfl [.int .u8 (n : Int)] #[(0, .int .u8 (n : Int))] (by simp [Act.eval]) (bs1 _) ?_); intro b1 w1 hb1 hR1 hN1)
    | ((with_reducible refine at_slot 11 ?_); (refine arm_append2 (o := ⟨some 11, _, _, _, _, _⟩) rfl _ _ rfl base p bs.length cap bs rfl rfl (H.out.own.below hN1.below) (some ⟨b1, 0, none⟩) 1 1 [n] rfl rfl (fun h => by cases h) (fun _ => ⟨b1, 0, rfl, hR1.range 0 _ (fun j v hj => by rw [Nat.zero_add]; exact hj)⟩) (by simp; omega) (by have := hN1.below.size; omega) ?_); intro p2 cap2 w2 hO2 hS2; have hr2 := (H.out.row.old hN1.below).of_block (hS2.block W (Nat.lt_of_lt_of_le H.out.lt hN1.below.size) (by simp) H.out.apart))
    | ((with_reducible refine arm_storeV (o := ⟨none, _, _, _, _, _⟩) rfl _ _ _ rfl W 0 rfl _ rfl rfl (by kernel_rfl) _ _ hr2 (by rw [List.length_cons]; omega) ?_); intro w3 hR3 hO3 hZ3))
  go_end0
  have hst := wr_stored (H.out.row.old hN1.below) H.out.apart hS2 hO2 H.out.low (by rw [List.length_append]; exact hR3) hO3
  exact ⟨rfl, p2, cap2, hst.1, (Step.of_below (some W) p hN1.below).trans hst.2⟩
end Go.Proofs.Yticdapgfjkhoaaa.Wi
