import Derived.Test.YtghogoijjaiccaaBytAll
import Derived.Test.YtghogoijjaiccaaMemAll
import Derived.Maps.AppendAt
import Derived.PlainAid
import Derived.Test.YtghogoijjaiccaaShaAll
/-
  What is written and read, over numbers and lists: bytes of a number, things and their bytes, a reader's state; what is written is read, what is cut goes wrong. No program.
-/
namespace Go.Proofs.Ytghogoijjaiccaa.Wi
set_option linter.unusedVariables false

/-- A number as so many bytes, the highest first. -/
def put : Nat → Nat → List Nat
  | _, 0 => []
  | n, k + 1 => put (n / 256) k ++ [n % 256]
theorem put_length : ∀ k n, (put n k).length = k
  | 0, _ => rfl
  | k + 1, n => by simp [put, put_length k]
theorem put_lt : ∀ k n, ∀ x ∈ put n k, x < 256
  | 0, _ => by simp [put]
  | k + 1, n => by
    intro x hx
    rcases List.mem_append.1 hx with h | h
    · exact put_lt k _ x h
    · simp at h; omega
theorem put_cons : ∀ k n, put n (k + 1) = (n / 256 ^ k % 256) :: put n k
  | 0, n => by simp [put]
  | k + 1, n => by
    have h := put_cons k (n / 256)
    rw [put, h, List.cons_append, show put (n / 256) k ++ [n % 256] = put n (k + 1) from rfl, Nat.div_div_eq_div_mul, Nat.pow_succ, Nat.mul_comm]
theorem put_drop : ∀ s n k, k ≤ s → (put n s).drop k = put n (s - k)
  | 0, n, k, h => by obtain rfl : k = 0 := by omega
                     rfl
  | s + 1, n, 0, h => rfl
  | s + 1, n, k + 1, h => by rw [put_cons, List.drop_succ_cons, put_drop s n k (by omega), show s + 1 - (k + 1) = s - k by omega]
theorem put_take (s n k : Nat) (h : k < s) : (put n s).take (k + 1) = (put n s).take k ++ [n / 256 ^ (s - 1 - k) % 256] := by
  have hl := put_length s n
  have hd := put_drop s n k (by omega)
  obtain ⟨j, hj⟩ : ∃ j, s - k = j + 1 := ⟨s - k - 1, by omega⟩
  rw [hj, put_cons] at hd
  have hg : (put n s)[k]? = some (n / 256 ^ j % 256) := by
    have := congrArg (fun l => l[0]?) hd
    simpa [List.getElem?_drop] using this
  rw [List.take_add_one, hg, show s - 1 - k = j by omega]
  rfl
/-- The number of some bytes. -/
def numOf (l : List Nat) : Nat := l.foldl (fun a b => a * 256 + b) 0
theorem numOf_snoc (l : List Nat) (b : Nat) : numOf (l ++ [b]) = numOf l * 256 + b := by simp [numOf]
theorem numOf_put : ∀ k n, numOf (put n k) = n % 256 ^ k
  | 0, n => by simp [put, numOf, Nat.mod_one]
  | k + 1, n => by
    rw [put, numOf_snoc, numOf_put k, Nat.pow_succ, Nat.mul_comm (256 ^ k) 256, Nat.mod_mul, Nat.mul_comm]
    omega
theorem fold_lt : ∀ (l : List Nat) (a : Nat), (∀ x ∈ l, x < 256) → l.foldl (fun a b => a * 256 + b) a < (a + 1) * 256 ^ l.length
  | [], a, _ => by simp
  | b :: l, a, h => by
    have h1 := fold_lt l (a * 256 + b) (fun x hx => h x (by simp [hx]))
    have h2 := h b (by simp)
    have h3 : (a * 256 + b + 1) * 256 ^ l.length ≤ (a + 1) * 256 * 256 ^ l.length := Nat.mul_le_mul_right _ (by omega)
    rw [List.foldl_cons, List.length_cons, Nat.pow_succ, Nat.mul_comm (256 ^ l.length) 256, ← Nat.mul_assoc]
    omega
theorem numOf_lt (l : List Nat) (h : ∀ x ∈ l, x < 256) : numOf l < 256 ^ l.length := by
  have := fold_lt l 0 h
  simpa [numOf] using this
theorem take_snoc (l : List Nat) (k : Nat) (h : k < l.length) : l.take (k + 1) = l.take k ++ [l.getD k 0] := by
  rw [List.take_add_one, List.getElem?_eq_getElem h]
  simp [List.getD_eq_getElem?_getD, List.getElem?_eq_getElem h]

/-- A text's bytes, if it may be. -/
def txt (b : List Nat) : List Nat := if b.length ≤ 255 then b.length :: b else []
/-- A reader's state: the bytes that are left, and what went wrong. -/
abbrev RS := List Nat × Nat
def failed (e c : Nat) : Nat := if e = 0 then c else e
def takeR (k : Nat) (s : RS) : List Nat × RS := if k ≤ s.1.length then (s.1.take k, (s.1.drop k, s.2)) else ([], ([], failed s.2 3))
def numR (k : Nat) (s : RS) : Nat × RS := (numOf (takeR k s).1, (takeR k s).2)
def hashR (s : RS) : List Nat × RS := (if 32 ≤ s.1.length then s.1.take 32 else List.replicate 32 0, (takeR 32 s).2)
def textR (m : Int) (s : RS) : List Nat × RS := if m < ((numR 1 s).1 : Int) then ([], ([], failed (numR 1 s).2.2 4)) else takeR (numR 1 s).1 (numR 1 s).2
def endR (s : RS) : Nat := if s.2 ≠ 0 then s.2 else if s.1 = [] then 0 else 4
end Go.Proofs.Ytghogoijjaiccaa.Wi

/-
  Slices of bytes that grow beside others; a writer's memory: its struct, and the bytes that it holds. Over this seat's translation.
-/
namespace Go.Proofs.Ytghogoijjaiccaa.Wi
open Go.ChangeShapes Go.WideShapes Go.ChangeAt Go.RowKit Go.Proofs.Ytghogoijjaiccaa.Mem Go.Proofs.Ytghogoijjaiccaa.Bt Go.Proofs.Ytghogoijjaiccaa.Tg
set_option linter.unusedVariables false

/-- The block in which a slice lies. -/
def blk (p : Option Addr) : Option Nat := p.map (·.block)
/-- A slice at p has become one at p'; struct W may have changed, too; no other block that was there. -/
structure Step (W : Option Nat) (p p' : Option Addr) (w w' : World) : Prop where
  os : w'.os = w.os
  tape : w'.tape = w.tape
  output : w'.output = w.output
  size : w.heap.size ≤ w'.heap.size
  block : ∀ k, k < w.heap.size → W ≠ some k → blk p ≠ some k → w'.heap[k]? = w.heap[k]?
  next : blk p' = blk p ∨ ∃ g, blk p' = some g ∧ w.heap.size ≤ g
theorem Step.refl (W : Option Nat) (p : Option Addr) (w : World) : Step W p p w w := ⟨rfl, rfl, rfl, Nat.le_refl _, fun _ _ _ _ => rfl, .inl rfl⟩
theorem Step.trans {W : Option Nat} {p p1 p2 : Option Addr} {w w1 w2 : World} (h : Step W p p1 w w1) (g : Step W p1 p2 w1 w2) : Step W p p2 w w2 :=
  ⟨g.os.trans h.os, g.tape.trans h.tape, g.output.trans h.output, Nat.le_trans h.size g.size, fun k hk h1 h2 => by
    have hk1 : blk p1 ≠ some k := by
      rcases h.next with e | ⟨b, e, hb⟩
      · rw [e]; exact h2
      · rw [e]; intro e'; have := Option.some.inj e'; omega
    exact (g.block k (Nat.lt_of_lt_of_le hk h.size) h1 hk1).trans (h.block k hk h1 h2), by
    rcases g.next with e | ⟨b, e, hb⟩
    · rcases h.next with e2 | ⟨b, e2, hb⟩
      · exact .inl (e.trans e2)
      · exact .inr ⟨b, e.trans e2, hb⟩
    · exact .inr ⟨b, e, Nat.le_trans h.size hb⟩⟩
theorem Step.of_below (W : Option Nat) (p : Option Addr) {w w' : World} (h : Below w.heap.size w w') : Step W p p w w' := ⟨h.os, h.tape, h.output, h.size, fun k hk _ _ => h.block k hk, .inl rfl⟩
theorem Step.of_only (W : Nat) (p : Option Addr) {w w' : World} (h : Only W w w') : Step (some W) p p w w' := ⟨h.os, h.tape, h.output, h.size, fun k hk h1 _ => h.block k hk (fun e => h1 (by rw [e])), .inl rfl⟩
theorem Step.some_ (W : Option Nat) {p p' : Option Addr} {w w' : World} (h : Step none p p' w w') : Step W p p' w w' := ⟨h.os, h.tape, h.output, h.size, fun k hk _ h2 => h.block k hk (by simp) h2, h.next⟩
theorem Step.below {W : Option Nat} {p p' : Option Addr} {w w' : World} {base : Nat} (h : Step W p p' w w') (hW : ∀ k, W = some k → base ≤ k) (hp : ∀ k, blk p = some k → base ≤ k) (hb : base ≤ w.heap.size) : Below base w w' :=
  ⟨h.os, h.tape, h.output, h.size, fun k hk => h.block k (by omega) (fun e => by have := hW k e; omega) (fun e => by have := hp k e; omega)⟩
/-- Where its own bytes lie. -/
theorem own_blk {w : World} {base : Nat} {p : Option Addr} {cap : Nat} {bs : List Nat} (h : Own w base p cap bs) {g : Nat} (hg : blk p = some g) : base ≤ g ∧ g < w.heap.size ∧ ∃ cur, w.heap[g]? = some (.cells cur 5 (0, 0)) := by
  rcases h.own.2 with ⟨hv, hn⟩ | ⟨g', cap', cur, hv, hb, hh, _⟩
  · have : p = none := by simpa using (Value.slice.inj hv).1
    subst this; simp [blk] at hg
  · have : p = some ⟨g', 0, none⟩ := (Value.slice.inj hv).1
    subst this
    have : g' = g := by simpa [blk] using hg
    subst this
    exact ⟨hb, (Array.getElem?_eq_some_iff.1 hh).1, cur, hh⟩
theorem own_mono {w : World} {base base' : Nat} {p : Option Addr} {cap : Nat} {bs : List Nat} (h : Own w base p cap bs) (hb : base' ≤ base) : Own w base' p cap bs := by
  refine ⟨h.own.1, ?_⟩
  rcases h.own.2 with h2 | ⟨g, cap', cur, hv, hg, r⟩
  · exact .inl h2
  · exact .inr ⟨g, cap', cur, hv, Nat.le_trans hb hg, r⟩
theorem own_low {w : World} {base : Nat} {p : Option Addr} {cap : Nat} {bs : List Nat} (h : Own w base p cap bs) : ∀ k, blk p = some k → base ≤ k := fun k hk => (own_blk h hk).1
/-- A struct lies elsewhere than bytes. -/
theorem row_not_own {w : World} {base W : Nat} {t : TypeId} {cs : List Value} {p : Option Addr} {cap : Nat} {bs : List Nat} (hr : Row w W t cs) (ht : t ≠ 5) (h : Own w base p cap bs) : blk p ≠ some W := fun e => by
  obtain ⟨_, _, cur, hh⟩ := own_blk h e
  have := Option.some.inj ((show w.heap[W]? = _ from hr).symm.trans hh)
  exact ht (Obj.cells.inj this).2.1
/-- Two slices in blocks of their own. -/
def Sep (p q : Option Addr) : Prop := ∀ k, blk p = some k → blk q ≠ some k
theorem Sep.symm {p q : Option Addr} (h : Sep p q) : Sep q p := fun k hq hp => h k hp hq
theorem Sep.next {W : Option Nat} {p p' q : Option Addr} {w w' : World} {base c : Nat} {ws : List Nat} (h : Sep p q) (hs : Step W p p' w w') (ho : Own w base q c ws) : Sep p' q := fun k hk hq => by
  rcases hs.next with e | ⟨g, e, hg⟩
  · exact h k (e ▸ hk) hq
  · have h1 := (own_blk ho hq).2.1
    have : g = k := Option.some.inj (e.symm.trans hk)
    omega
theorem own_step {W : Option Nat} {p p' q : Option Addr} {w w' : World} {base c : Nat} {ws : List Nat} (ho : Own w base q c ws) (hs : Step W p p' w w') (h : Sep p q) (hW : ∀ k, W = some k → blk q ≠ some k) : Own w' base q c ws := by
  refine ⟨ho.own.1, ?_⟩
  rcases ho.own.2 with h2 | ⟨g, cap', cur, hv, hg, hh, r⟩
  · exact .inl h2
  · have hq : blk q = some g := by rw [(Value.slice.inj hv).1]; rfl
    exact .inr ⟨g, cap', cur, hv, hg, by rw [hs.block g (Array.getElem?_eq_some_iff.1 hh).1 (fun e => hW g e hq) (fun e => h g e hq)]; exact hh, r⟩
section
variable {ops : Array Oper} {rest : List Oper} {o : Oper} {a : Act} {w : World} {Q : Exit → Act → World → Prop}
/-- 'append(s, x...)' of bytes onto a slice of the call's own; what else has changed. -/
theorem arm_append2 (hgd : o.guard = none) (s x : Operand) (ho : o.op = .call { callee := .builtin .append, args := #[s, x], argTypes := #[43, 43] }) (base : Nat) (p : Option Addr) (n cap : Nat) (bs : List Nat) (hn : n = bs.length)
    (hs : a.eval s = .slice p n cap) (hown : Own w base p cap bs) (q : Option Addr) (m c : Nat) (ys : List Nat) (hx : a.eval x = .slice q m c) (hm : m = ys.length) (hq : q = none → m = 0 ∧ c = 0)
    (hy : ys ≠ [] → ∃ g go, q = some ⟨g, go, none⟩ ∧ w.rangeAt g go (u8s ys)) (hz : bs.length + ys.length ≤ 1000000000) (hb : base ≤ w.heap.size)
    (h : ∀ p' cap' w', Own w' base p' cap' (bs ++ ys) → Step none p p' w w' → wpList Try.prog ops Q rest (a.put o.dst (.slice p' (n + m) cap')) w') : wpList Try.prog ops Q (o :: rest) a w := by
  subst hm hn
  rw [← List.length_append] at h
  obtain ⟨i0, hi, hz0, hz1, hz2⟩ := info_parts info5
  cases q with
  | none =>
    obtain ⟨h0, rfl⟩ := hq rfl
    have hnil : ys = [] := List.eq_nil_of_length_eq_zero h0
    subst hnil
    refine wpList_append_own_none hgd s x 43 ho base 5 i0 1 (by kernel_rfl) hi _ _ _ hs hown.own hx ?_
    have := h p cap w (by rw [List.append_nil]; exact hown) (Step.refl _ _ _)
    rw [List.append_nil] at this
    exact this
  | some ad =>
    have hnews : ∀ j u, (u8s ys)[j]? = some u → w.cell? (ad.add j) = some u := by
      intro j u hj
      have hne : ys ≠ [] := by intro e; subst e; simp [u8s] at hj
      obtain ⟨g, go, e, hr⟩ := hy hne
      have e' : ad = ⟨g, go, none⟩ := Option.some.inj e
      rw [e', Addr.add_mid]
      exact hr j u hj
    refine wpList_append_own_at w hgd s x 43 ho base 5 i0 (.int .u8 0) 1 1 (by kernel_rfl) hi hz0 hz1 hz2 rfl (by decide) _ _ _ hs hown.own ad ys.length c (u8s ys) hx (by rw [u8s_length, Nat.mul_one]) hnews (u8s_one _) (by unfold maxLen; omega) (by omega) hb ?_
    intro v' w' hown' hgrow _ hat
    rw [← u8s_append, ← List.length_append] at hown'
    obtain ⟨p', cap', hv, hO⟩ := Own.of_slice hown'
    have e1 : ∀ (p : Option Addr) (n c : Nat), (Value.slice p n c).ownBlock = blk p := fun p n c => by cases p <;> rfl
    rw [hv, e1, e1] at hat
    rw [e1] at hgrow
    rw [hv]
    refine h p' cap' w' hO ⟨hgrow.os, hgrow.tape, hgrow.output, hgrow.size, fun k hk _ h2 => hgrow.block k hk (fun e => h2 e.symm), ?_⟩
    rcases hat with e | e
    · exact .inl e
    · exact .inr ⟨_, e, Nat.le_refl _⟩
end
/-- A writer that has written these bytes. -/
structure Wr (w : World) (base W : Nat) (p : Option Addr) (cap : Nat) (bs : List Nat) : Prop where
  row : Row w W 73 [.slice p bs.length cap]
  own : Own w base p cap bs
  low : base ≤ W
theorem Wr.lt {w : World} {base W : Nat} {p : Option Addr} {cap : Nat} {bs : List Nat} (h : Wr w base W p cap bs) : W < w.heap.size := h.row.lt
theorem Wr.apart {w : World} {base W : Nat} {p : Option Addr} {cap : Nat} {bs : List Nat} (h : Wr w base W p cap bs) : blk p ≠ some W := row_not_own h.row (by decide) h.own
theorem Wr.old {w w' : World} {base W : Nat} {p : Option Addr} {cap : Nat} {bs : List Nat} (h : Wr w base W p cap bs) (hb : Below w.heap.size w w') : Wr w' base W p cap bs := ⟨h.row.old hb, h.own.below hb, h.low⟩
/-- Another writer is left as it was. -/
theorem Wr.other {w w' : World} {base W W2 : Nat} {p p' q : Option Addr} {cap c : Nat} {bs ws : List Nat} (h2 : Wr w base W2 q c ws) (h : Wr w base W p cap bs) (hs : Step (some W) p p' w w') (hne : W2 ≠ W) (hsep : Sep p q) : Wr w' base W2 q c ws :=
  ⟨h2.row.of_block (hs.block W2 h2.lt (fun e => hne (Option.some.inj e).symm) (row_not_own h2.row (by decide) h.own)), own_step h2.own hs hsep (fun k hk => by rw [← Option.some.inj hk]; exact row_not_own h.row (by decide) h2.own), h2.low⟩
theorem Wr.below {w w' : World} {base W : Nat} {p p' : Option Addr} {cap : Nat} {bs : List Nat} (h : Wr w base W p cap bs) (hs : Step (some W) p p' w w') (hb : base ≤ w.heap.size) : Below base w w' :=
  hs.below (fun k hk => by rw [← Option.some.inj hk]; exact h.low) (own_low h.own) hb
/-- What writing leaves. -/
structure WrPost (w : World) (base W : Nat) (p : Option Addr) (v : Value) (bs : List Nat) (e : Ending) (w' : World) : Prop where
  ex : e = .returned v ∧ ∃ p' cap', Wr w' base W p' cap' bs ∧ Step (some W) p p' w w'
theorem zero_wr : Mem.Zero Try.prog 73 [.slice none 0 0] := by unfold Mem.Zero; kernel_rfl
theorem wr_new {w : World} {base W : Nat} (hr : Row w W 73 [.slice none 0 0]) (hb : base ≤ W) : Wr w base W none 0 [] := ⟨hr, own_nil w base, hb⟩
/-- One more store of the struct behind the growth of its bytes. -/
theorem wr_stored {w w1 w2 : World} {base W : Nat} {p p' : Option Addr} {cap' : Nat} {bs' : List Nat} {v : Value} (hr : Row w W 73 [v]) (hp : blk p ≠ some W) (hs : Step none p p' w w1) (ho : Own w1 base p' cap' bs') (hl : base ≤ W)
    (hr2 : Row w2 W 73 [.slice p' bs'.length cap']) (ho2 : Only W w1 w2) : Wr w2 base W p' cap' bs' ∧ Step (some W) p p' w w2 := by
  have hr1 : Row w1 W 73 [v] := hr.of_block (hs.block W hr.lt (by simp) hp)
  refine ⟨⟨hr2, own_step ho (Step.of_only W none ho2) (fun k hk => by simp [blk] at hk) (fun k hk => by rw [← Option.some.inj hk]; exact row_not_own hr1 (by decide) ho), hl⟩, (hs.some_ _).trans (Step.of_only W p' ho2)⟩

set_option maxRecDepth 100000 in
theorem wByte_any (n : Nat) (base W : Nat) (p : Option Addr) (cap : Nat) (bs : List Nat) (w : World) (h : Wr w base W p cap bs) (hb : base ≤ w.heap.size) (hl : bs.length ≤ 1000000) :
    Calls Try.prog 16 #[.pointer (some ⟨W, 0, none⟩), .int .u8 (n : Int)] w (WrPost w base W p (.tuple #[]) (bs ++ [n])) := by
  have H := Lib.hid h
  have hc : w.cell? ⟨W, 0, none⟩ = some (.slice p bs.length cap) := h.row.cell rfl
  clear h
  go_enter Try.func16, Try.ntmps16
  go_wp2_with (first
    | ((with_reducible refine at_slot 10 ?_); (refine arm_buildSlice (o := ⟨some 10, _, _, _, _, _⟩) rfl 1 _ rfl [.int .u8 (n : Int)] #[(0, .int .u8 (n : Int))] (by simp [Act.eval]) (bs1 _) ?_); intro b1 w1 hb1 hR1 hN1)
    | ((with_reducible refine at_slot 11 ?_); (refine arm_append2 (o := ⟨some 11, _, _, _, _, _⟩) rfl _ _ rfl base p bs.length cap bs rfl rfl (H.out.own.below hN1.below) (some ⟨b1, 0, none⟩) 1 1 [n] rfl rfl (fun h => by cases h) (fun _ => ⟨b1, 0, rfl, hR1.range 0 _ (fun j v hj => by rw [Nat.zero_add]; exact hj)⟩) (by simp; omega) (by have := hN1.below.size; omega) ?_); intro p2 cap2 w2 hO2 hS2; have hr2 := (H.out.row.old hN1.below).of_block (hS2.block W (Nat.lt_of_lt_of_le H.out.lt hN1.below.size) (by simp) H.out.apart))
    | ((with_reducible refine arm_storeV (o := ⟨none, _, _, _, _, _⟩) rfl _ _ _ rfl W 0 rfl _ rfl rfl (by kernel_rfl) _ _ hr2 (by rw [List.length_cons]; omega) ?_); intro w3 hR3 hO3 hZ3))
  go_end0
  have hst := wr_stored (H.out.row.old hN1.below) H.out.apart hS2 hO2 H.out.low (by rw [List.length_append]; exact hR3) hO3
  exact ⟨rfl, p2, cap2, hst.1, (Step.of_below (some W) p hN1.below).trans hst.2⟩
end Go.Proofs.Ytghogoijjaiccaa.Wi

/-
  The contracts of wire's Writer (number, Num, Long, Hash, Text, Bytes) and of bytes.Clone, over this seat's translation.
-/
namespace Go.Proofs.Ytghogoijjaiccaa.Wi
open Go.ChangeShapes Go.WideShapes Go.ChangeAt Go.RowKit Go.Proofs.Ytghogoijjaiccaa.Mem Go.Proofs.Ytghogoijjaiccaa.Bt Go.Proofs.Ytghogoijjaiccaa.Tg
set_option linter.unusedVariables false

/-- A writer's struct holds no byte. -/
theorem row_no_byte {w : World} {W o : Nat} {p : Option Addr} {n c : Nat} {t : TypeId} {v : Int} (hr : Row w W t [.slice p n c]) (h : w.cell? ⟨W, o, none⟩ = some (.int .u8 v)) : False := by
  simp only [World.cell?, show w.heap[W]? = _ from hr] at h
  match o, h with
  | 0, h => simp at h
  | n + 1, h => simp at h
/-- What holds in number's loop. -/
structure NuRel (w : World) (base W : Nat) (p : Option Addr) (bs : List Nat) (n s : Nat) (i : Value) (wr : World) : Prop where
  ex : ∃ k : Nat, k ≤ s ∧ i = .int .i64 k ∧ ∃ p' cap', Wr wr base W p' cap' (bs ++ (put n s).take k) ∧ Step (some W) p p' w wr
set_option maxHeartbeats 1000000 in
set_option maxRecDepth 100000 in
theorem wNumber_any (n s : Nat) (base W : Nat) (p : Option Addr) (cap : Nat) (bs : List Nat) (w : World) (h : Wr w base W p cap bs) (hb : base ≤ w.heap.size) (hl : bs.length ≤ 900000) (hn : n < 18446744073709551616) (hs : s ≤ 8) :
    Calls Try.prog 40 #[.pointer (some ⟨W, 0, none⟩), .int .u64 (n : Int), .int .i64 (s : Int)] w (WrPost w base W p (.tuple #[]) (bs ++ put n s)) := by
  have h0 : NuRel w base W p bs n s (.int .i64 0) w := ⟨0, by omega, rfl, p, cap, by rw [List.take_zero, List.append_nil]; exact h, Step.refl _ _ _⟩
  clear h
  go_enter Try.func40, Try.ntmps40
  go_wp2_with fail
  go_loopw [8] (fun i wr => NuRel w base W p bs n s i wr) (fun i _ => s - (intOf i).toNat)
  case atStart => exact h0
  case round =>
    clear h0
    obtain ⟨k, hk, rfl, q, c, hW, hS⟩ := hrel
    by_cases hlt : k < s
    · have ik : (k : Int) < (s : Int) := by omega
      have HW := Lib.hid hW; have HS := Lib.hid hS; clear hW hS
      have HV : Hid ((n : Int) / 2 ^ (8 * (s - 1 - k)) % 256 = ((n / 256 ^ (s - 1 - k) % 256 : Nat) : Int)) := Lib.hid (by
        rw [show (256 : Nat) ^ (s - 1 - k) = 2 ^ (8 * (s - 1 - k)) by rw [Nat.pow_mul]]
        simp)
      go_wp2_with fail
      rw [HV.out]
      refine (wByte_any _ base W q c _ wr HW.out (Nat.le_trans hb HS.out.size) (by rw [List.length_append, List.length_take]; omega)).mono ?_
      rintro e w2 ⟨rfl, q2, c2, hW2, hS2⟩
      go_wp2_with fail
      go_roundw
      case rel => exact ⟨k + 1, by omega, by go_num, q2, c2, by rw [put_take s n k hlt, ← List.append_assoc]; exact hW2, HS.out.trans hS2⟩
      case measure => simp [intOf]; omega
    · obtain rfl : k = s := by omega
      rw [List.take_of_length_le (by rw [put_length]; omega)] at hW
      go_wp2_with fail
      go_end0
      exact ⟨rfl, q, c, hW, hS⟩

set_option maxRecDepth 100000 in
theorem wNum_any (n : Nat) (base W : Nat) (p : Option Addr) (cap : Nat) (bs : List Nat) (w : World) (h : Wr w base W p cap bs) (hb : base ≤ w.heap.size) (hl : bs.length ≤ 900000) (hn : n < 4294967296) :
    Calls Try.prog 17 #[.pointer (some ⟨W, 0, none⟩), .int .u32 (n : Int)] w (WrPost w base W p (.tuple #[]) (bs ++ put n 4)) := by
  have H := Lib.hid h; clear h
  go_enter Try.func17, Try.ntmps17
  go_wp2_with fail
  refine (wNumber_any n 4 base W p cap bs w H.out hb hl (by omega) (by omega)).mono ?_
  rintro e w2 ⟨rfl, q2, c2, hW2, hS2⟩
  go_wp2_with fail
  go_end0
  exact ⟨rfl, q2, c2, hW2, hS2⟩
set_option maxRecDepth 100000 in
theorem wLong_any (n : Nat) (base W : Nat) (p : Option Addr) (cap : Nat) (bs : List Nat) (w : World) (h : Wr w base W p cap bs) (hb : base ≤ w.heap.size) (hl : bs.length ≤ 900000) (hn : n < 18446744073709551616) :
    Calls Try.prog 43 #[.pointer (some ⟨W, 0, none⟩), .int .u64 (n : Int)] w (WrPost w base W p (.tuple #[]) (bs ++ put n 8)) := by
  have H := Lib.hid h; clear h
  go_enter Try.func43, Try.ntmps43
  go_wp2_with fail
  refine (wNumber_any n 8 base W p cap bs w H.out hb hl hn (by omega)).mono ?_
  rintro e w2 ⟨rfl, q2, c2, hW2, hS2⟩
  go_wp2_with fail
  go_end0
  exact ⟨rfl, q2, c2, hW2, hS2⟩

set_option maxRecDepth 100000 in
theorem wText_any (ys : List Nat) (y : Option Addr) (yc : Nat) (base W : Nat) (p : Option Addr) (cap : Nat) (bs : List Nat) (w : World) (h : Wr w base W p cap bs) (hb : base ≤ w.heap.size) (hl : bs.length ≤ 900000)
    (hy : Rd w y ys) (hyn : y = none → ys.length = 0 ∧ yc = 0) (hyb : ys ≠ [] → Sep p y) (hm : ys.length ≤ maxLen) :
    Calls Try.prog 20 #[.pointer (some ⟨W, 0, none⟩), .slice y ys.length yc] w (WrPost w base W p (.bool (decide (ys.length ≤ 255))) (bs ++ txt ys)) := by
  have H := Lib.hid h; have HY := Lib.hid hy; have HYN := Lib.hid hyn; have HYB := Lib.hid hyb
  clear h hy hyn hyb
  unfold maxLen at hm
  by_cases hs : ys.length ≤ 255
  · have hd : decide ((255 : Int) < (ys.length : Int)) = false := decide_eq_false (by omega)
    rw [decide_eq_true hs, show txt ys = ys.length :: ys from if_pos hs]
    have HM : Hid ((ys.length : Int) % 256 = ((ys.length : Nat) : Int)) := Lib.hid (by omega)
    go_enter Try.func20, Try.ntmps20
    go_wp2_with fail
    try rw [HM.out]
    refine (wByte_any ys.length base W p cap bs w H.out hb (by omega)).mono ?_
    rintro e w1 ⟨rfl, q, c, hW1, hS1⟩
    have hc : w1.cell? ⟨W, 0, none⟩ = some (.slice q (bs.length + 1) c) := hW1.row.cell (by rw [List.length_append]; rfl)
    have HW := Lib.hid hW1
    have hr1 : Rd w1 y ys := ⟨fun hne => by
      obtain ⟨g, o, e, hr⟩ := HY.out.at_ hne
      have hne8 : u8s ys ≠ [] := by intro h; apply hne; simpa [u8s] using h
      have hg : g < w.heap.size := range_lt hr hne8
      refine ⟨g, o, e, range_block hr (hS1.block g hg (fun eW => ?_) (fun eP => HYB.out hne g eP (by rw [e]; rfl)))⟩
      obtain rfl : W = g := Option.some.inj eW
      obtain ⟨v, hv⟩ : ∃ v, ys[0]? = some v := ⟨_, List.getElem?_eq_getElem (List.length_pos_iff.2 hne)⟩
      exact row_no_byte H.out.row (hr 0 (.int .u8 (v : Int)) (by simp [u8s, hv]))⟩
    have HR := Lib.hid hr1
    clear hW1 hr1
    have hb1 : base ≤ w1.heap.size := Nat.le_trans hb hS1.size
    go_wp2_with (first
      | ((with_reducible refine at_slot 19 ?_); (refine arm_append2 (o := ⟨some 19, _, _, _, _, _⟩) rfl _ _ rfl base q (bs.length + 1) c (bs ++ [ys.length]) (by rw [List.length_append, List.length_singleton]) rfl HW.out.own y ys.length yc ys rfl rfl HYN.out HR.out.at_ (by rw [List.length_append, List.length_singleton]; omega) hb1 ?_); intro p2 cap2 w2 hO2 hS2; have hr2 := HW.out.row.of_block (hS2.block W HW.out.lt (by simp) HW.out.apart))
      | ((with_reducible refine arm_storeV (o := ⟨none, _, _, _, _, _⟩) rfl _ _ _ rfl W 0 rfl _ rfl rfl (by kernel_rfl) _ _ hr2 (by rw [List.length_cons]; omega) ?_); intro w3 hR3 hO3 hZ3))
    go_ret
    have hst := wr_stored HW.out.row HW.out.apart hS2 hO2 HW.out.low (by rw [List.length_append, List.length_append, List.length_singleton]; exact hR3) hO3
    exact ⟨rfl, p2, cap2, by have := hst.1; rw [List.append_assoc] at this; exact this, hS1.trans hst.2⟩
  · have hd : decide ((255 : Int) < (ys.length : Int)) = true := decide_eq_true (by omega)
    rw [decide_eq_false hs, show txt ys = [] from if_neg hs, List.append_nil]
    go_enter Try.func20, Try.ntmps20
    go_wp2_with fail
    go_ret
    exact ⟨rfl, p, cap, H.out, Step.refl _ _ _⟩
end Go.Proofs.Ytghogoijjaiccaa.Wi

/-
  The contracts of bytes.Clone and of wire's Writer.Bytes, Writer.Hash, over this seat's translation.
-/
namespace Go.Proofs.Ytghogoijjaiccaa.Wi
open Go.ChangeShapes Go.WideShapes Go.ChangeAt Go.RowKit Go.Proofs.Ytghogoijjaiccaa.Mem Go.Proofs.Ytghogoijjaiccaa.Bt Go.Proofs.Ytghogoijjaiccaa.Tg
set_option linter.unusedVariables false

/-- A copy in memory of its own. -/
structure ClonePost (w : World) (bs : List Nat) (e : Ending) (w' : World) : Prop where
  ex : ∃ p cap, e = .returned (.slice p bs.length cap) ∧ Own w' w.heap.size p cap bs
  bel : Below w.heap.size w w'
set_option maxRecDepth 100000 in
theorem clone_any (bs : List Nat) (p : Option Addr) (cap : Nat) (w : World) (h : Rd w p bs) (hn : p = none → bs.length = 0 ∧ cap = 0) (hl : bs.length ≤ 1000000) :
    Calls Try.prog 44 #[.slice p bs.length cap] w (ClonePost w bs) := by
  have H := Lib.hid h; clear h
  cases p with
  | none =>
    obtain ⟨h0, rfl⟩ := hn rfl
    obtain rfl : bs = [] := List.eq_nil_of_length_eq_zero h0
    rw [show ([] : List Nat).length = 0 from rfl]
    have hE : ∀ w : World, (binOp .eql 43 (.slice none 0 0) (.slice none 0 0)).run Try.prog w = .ok (.bool true) w := fun w => by kernel_rfl
    go_enter Try.func44, Try.ntmps44
    go_wp2_with fail
    go_ret
    exact ⟨⟨none, 0, rfl, own_nil _ _⟩, Below.refl _ _⟩
  | some ad =>
    clear hn
    have hE : ∀ w : World, (binOp .eql 43 (.slice (some ad) bs.length cap) (.slice none 0 0)).run Try.prog w = .ok (.bool false) w := fun w => by kernel_rfl
    go_enter Try.func44, Try.ntmps44
    go_wp2_with (first
      | ((with_reducible refine at_slot 5 ?_); (refine arm_buildSlice (o := ⟨some 5, _, _, _, _, _⟩) rfl 0 _ rfl [] #[] (by simp) bs0 ?_); intro b1 w1 hb1 hR1 hN1)
      | ((with_reducible refine at_slot 7 ?_); (refine arm_append2 (o := ⟨some 7, _, _, _, _, _⟩) rfl _ _ rfl w.heap.size (some ⟨b1, 0, none⟩) 0 0 [] rfl rfl (own_new hR1 (by have := hb1.out; omega)) (some ad) bs.length cap bs rfl rfl (fun h => by cases h) (H.out.below hN1.below).at_ (by rw [List.length_nil]; omega) (by have := hN1.below.size; omega) ?_); intro p2 cap2 w2 hO2 hS2))
    go_ret
    refine ⟨⟨p2, cap2, rfl, hO2⟩, hN1.below.trans (hS2.below (fun k hk => by cases hk) (fun k hk => ?_) hN1.below.size)⟩
    have e1 := hb1.out
    have e2 : b1 = k := Option.some.inj hk
    omega
theorem own_none {w : World} {base : Nat} {p : Option Addr} {cap : Nat} {bs : List Nat} (h : Own w base p cap bs) : p = none → bs.length = 0 ∧ cap = 0 := fun e => by
  subst e
  rcases h.own.2 with ⟨hv, hn⟩ | ⟨g, cap', cur, hv, _⟩
  · exact ⟨hn, (Value.slice.inj hv).2.2⟩
  · cases (Value.slice.inj hv).1
set_option maxRecDepth 100000 in
theorem wBytes_any (base W : Nat) (p : Option Addr) (cap : Nat) (bs : List Nat) (w : World) (h : Wr w base W p cap bs) (hl : bs.length ≤ 1000000) :
    Calls Try.prog 22 #[.pointer (some ⟨W, 0, none⟩)] w (ClonePost w bs) := by
  have hc : w.cell? ⟨W, 0, none⟩ = some (.slice p bs.length cap) := h.row.cell rfl
  have H := Lib.hid h; clear h
  go_enter Try.func22, Try.ntmps22
  go_wp2_with fail
  refine (clone_any bs p cap w H.out.own.rd (own_none H.out.own) hl).mono ?_
  rintro e w1 ⟨⟨q, c, rfl, hO⟩, hB⟩
  go_wp2_with fail
  go_ret
  exact ⟨⟨q, c, rfl, hO⟩, hB⟩
section
variable {o : Oper} {a : Act} {w : World}
/-- 'append(s, x...)' onto a slice of the call's own, run. -/
theorem run_op_append2 (s x : Operand) (ho : o.op = .call { callee := .builtin .append, args := #[s, x], argTypes := #[43, 43] }) (base : Nat) (p : Option Addr) (n cap : Nat) (bs : List Nat) (hn : n = bs.length)
    (hs : a.eval s = .slice p n cap) (hown : Own w base p cap bs) (q : Option Addr) (m c : Nat) (ys : List Nat) (hx : a.eval x = .slice q m c) (hm : m = ys.length) (hq : q = none → m = 0 ∧ c = 0)
    (hy : ys ≠ [] → ∃ g go, q = some ⟨g, go, none⟩ ∧ w.rangeAt g go (u8s ys)) (hz : bs.length + ys.length ≤ 1000000000) (hb : base ≤ w.heap.size) :
    ∃ p' cap' w', (execOp a.eval o).run Try.prog w = .ok (.value (.slice p' (n + m) cap')) w' ∧ Own w' base p' cap' (bs ++ ys) ∧ Step none p p' w w' := by
  subst hm hn
  rw [← List.length_append]
  obtain ⟨i0, hi, hz0, hz1, hz2⟩ := info_parts info5
  cases q with
  | none =>
    obtain ⟨h0, rfl⟩ := hq rfl
    have hnil : ys = [] := List.eq_nil_of_length_eq_zero h0
    subst hnil
    have hrun := run_append_owned_none (P := Try.prog) (w := w) base 43 o.type 5 i0 1 (by kernel_rfl) hi _ _ _ hown.own
    refine ⟨p, cap, w, ?_, by rw [List.append_nil]; exact hown, Step.refl _ _ _⟩
    rw [List.append_nil]
    simp [execOp, ho, resolve, invoke, builtin, hs, hx, hrun, Result.andThen]
  | some ad =>
    have hnews : ∀ j u, (u8s ys)[j]? = some u → w.cell? (ad.add j) = some u := by
      intro j u hj
      have hne : ys ≠ [] := by intro e; subst e; simp [u8s] at hj
      obtain ⟨g, go, e, hr⟩ := hy hne
      have e' : ad = ⟨g, go, none⟩ := Option.some.inj e
      rw [e', Addr.add_mid]
      exact hr j u hj
    obtain ⟨v', w', hr, hown', hgrow, _, hat⟩ := run_append_own_at (P := Try.prog) w base 43 o.type 5 i0 (.int .u8 0) 1 1 (by kernel_rfl) hi hz0 hz1 hz2 rfl (by decide) _ _ _ hown.own ad ys.length c (u8s ys) (by rw [u8s_length, Nat.mul_one]) hnews (u8s_one _) (by unfold maxLen; omega) (by omega) hb
    rw [← u8s_append, ← List.length_append] at hown'
    obtain ⟨p', cap', hv, hO⟩ := Own.of_slice hown'
    have e1 : ∀ (p : Option Addr) (n c : Nat), (Value.slice p n c).ownBlock = blk p := fun p n c => by cases p <;> rfl
    rw [hv, e1, e1] at hat
    rw [e1] at hgrow
    rw [hv] at hr
    refine ⟨p', cap', w', ?_, hO, ⟨hgrow.os, hgrow.tape, hgrow.output, hgrow.size, fun k hk _ h2 => hgrow.block k hk (fun e => h2 e.symm), ?_⟩⟩
    · unfold execOp
      simp only [ho, resolve, invoke, builtin, Sem.run_bind, Sem.run_pure, Result.andThen_ok, List.map_toArray, List.map_cons, List.map_nil, hs, hx, hr]
    · rcases hat with e | e
      · exact .inl e
      · exact .inr ⟨_, e, Nat.le_refl _⟩
end
section
variable {ops : Array Oper} {Q : Exit → Act → World → Prop} {o : Oper} {a : Act} {w : World}
/-- The same, in a region that draws its order. -/
theorem o_append {i : Nat} {K : Act → World → Prop} (hi : ops[i]? = some o) (d : Tmp) (hd : o.dst = some d) (hg : Region.wanted o (yielded ops a.tmps) = true) (s x : Operand) (ho : o.op = .call { callee := .builtin .append, args := #[s, x], argTypes := #[43, 43] }) (base : Nat) (p : Option Addr) (n cap : Nat) (bs : List Nat) (hn : n = bs.length)
    (hs : a.eval s = .slice p n cap) (hown : Own w base p cap bs) (q : Option Addr) (m c : Nat) (ys : List Nat) (hx : a.eval x = .slice q m c) (hm : m = ys.length) (hq : q = none → m = 0 ∧ c = 0)
    (hy : ys ≠ [] → ∃ g go, q = some ⟨g, go, none⟩ ∧ w.rangeAt g go (u8s ys)) (hz : bs.length + ys.length ≤ 1000000000) (hb : base ≤ w.heap.size)
    (h : ∀ p' cap' w', Own w' base p' cap' (bs ++ ys) → Step none p p' w w' → K (a.put (some d) (.slice p' (n + m) cap')) w') : wpOp Try.prog ops Q i K a w := by
  obtain ⟨p', cap', w', hr, h1, h2⟩ := run_op_append2 s x ho base p n cap bs hn hs hown q m c ys hx hm hq hy hz hb
  exact o_value _ hi d hd hg hr (h p' cap' w' h1 h2)
end
set_option maxHeartbeats 1000000 in
set_option maxRecDepth 100000 in
theorem wHash_any (hh : List Nat) (base W : Nat) (p : Option Addr) (cap : Nat) (bs : List Nat) (w : World) (h : Wr w base W p cap bs) (hb : base ≤ w.heap.size) (hl : bs.length ≤ 900000) (hlen : hh.length = 32) :
    Calls Try.prog 42 #[.pointer (some ⟨W, 0, none⟩), .agg (u8s hh).toArray] w (WrPost w base W p (.tuple #[]) (bs ++ hh)) := by
  have H := Lib.hid h; have HL := Lib.hid hlen
  clear h hlen
  go_enter Try.func42, Try.ntmps42
  go_wp2_with (first
    | ((with_reducible refine at_slot 3 ?_); (refine arm_box (o := ⟨some 3, _, _, _, _, _⟩) rfl _ _ rfl (u8s hh) rfl ?_); intro B w1 hB hR1 hN1))
  have eB := hB.out
  have hW1 := H.out.old hN1.below
  have HWz : Hid (Wr w1.drew base W p cap bs) := Lib.hid (hW1.old ((Below.refl _ _).drew))
  have hBz : Row w1.drew B 24 (u8s hh) := hR1
  have hpB : blk p ≠ some B := fun e => by have := (own_blk H.out.own e).2.1; omega
  have hWB : W ≠ B := by have := H.out.lt; omega
  have hS1 : Step (some W) p p w w1.drew := Step.of_below _ _ (hN1.below.trans ((Below.refl _ _).drew))
  have HPB := Lib.hid (And.intro hpB hWB)
  have hbz : base ≤ w1.drew.heap.size := Nat.le_trans hb hS1.size
  clear eB hW1 hR1 hN1 hB hpB hWB
  refine wp_region_held (S := fun w' => True) (by kernel_rfl) ?_
  change wpAnyH _ _ _ _ _ _ _ _ w1.drew
  generalize w1.drew = wz at HWz hBz hS1 hbz ⊢
  have hS : True := True.intro
  refine h_take 0 (.pointer (some ⟨W, 0, none⟩)) rfl 4 rfl (by kernel_rfl) (by kernel_rfl) (by kernel_rfl) (by kernel_rfl) (fun _ _ _ h => h) (fun w' _ => by kernel_rfl) hS ?_
  simp only [Act.put, List.setIfInBounds_toArray, List.set_cons_zero, List.set_cons_succ]
  refine h_take 1 (.pointer (some ⟨W, 0, none⟩)) rfl 5 rfl (by kernel_rfl) (by kernel_rfl) (by kernel_rfl) (by kernel_rfl) (fun _ _ _ h => h) (fun w' _ => by kernel_rfl) hS ?_
  simp only [Act.put, List.setIfInBounds_toArray, List.set_cons_zero, List.set_cons_succ]
  refine h_take 2 (.pointer (some ⟨W, 0, none⟩)) rfl 6 rfl (by kernel_rfl) (by kernel_rfl) (by kernel_rfl) (by kernel_rfl) (fun _ _ _ h => h) (fun w' _ => by kernel_rfl) hS ?_
  simp only [Act.put, List.setIfInBounds_toArray, List.set_cons_zero, List.set_cons_succ]
  refine h_take 3 (.pointer (some ⟨W, 0, none⟩)) rfl 7 rfl (by kernel_rfl) (by kernel_rfl) (by kernel_rfl) (by kernel_rfl) (fun _ _ _ h => h) (fun w' _ => by kernel_rfl) hS ?_
  simp only [Act.put, List.setIfInBounds_toArray, List.set_cons_zero, List.set_cons_succ]
  refine h_take 5 (.slice (some ⟨B, 0, none⟩) 32 32) rfl 9 rfl (by kernel_rfl) (by kernel_rfl) (by kernel_rfl) (by kernel_rfl) (fun _ _ _ h => h) (fun w' _ => run_op_sliceAll _ _ rfl 32 5 (by kernel_rfl) (by kernel_rfl) B 0 rfl (by omega) w') hS ?_
  simp only [Act.put, List.setIfInBounds_toArray, List.set_cons_zero, List.set_cons_succ]
  refine h_one (i := 4) (by kernel_rfl) (o_value (.slice p bs.length cap) rfl 8 rfl (by kernel_rfl) (run_op_load1 _ _ rfl (.slice 5) (by kernel_rfl) rfl _ rfl _ (HWz.out.row.cell rfl)) ?_)
  refine ⟨hS, ?_⟩
  simp only [Act.put, List.setIfInBounds_toArray, List.set_cons_zero, List.set_cons_succ]
  obtain ⟨p2, cap2, w2, hr2, hO2, hS2⟩ := run_op_append2 (o := ⟨some 10, .call { callee := .builtin .append, args := #[.tmp 8, .tmp 9], argTypes := #[43, 43] }, 43, "wire.go:31", #[⟨4, .data⟩, ⟨5, .data⟩], none⟩) (a := { tmps := #[.pointer (some ⟨W, 0, none⟩), .agg (u8s hh).toArray, undef, .pointer (some ⟨B, 0, none⟩), .pointer (some ⟨W, 0, none⟩), .pointer (some ⟨W, 0, none⟩), .pointer (some ⟨W, 0, none⟩), .pointer (some ⟨W, 0, none⟩), .slice p bs.length cap, .slice (some ⟨B, 0, none⟩) 32 32, undef, undef, undef], defers := [] }) (w := wz)
    _ _ rfl base p bs.length cap bs rfl rfl HWz.out.own (some ⟨B, 0, none⟩) 32 32 hh rfl HL.out.symm (fun h => by cases h) (fun _ => ⟨B, 0, rfl, hBz.range 0 _ (fun j v hj => by rw [Nat.zero_add]; exact hj)⟩) (by rw [HL.out]; omega) hbz
  have hW2 := HWz.out.row.of_block (hS2.block W HWz.out.lt (by simp) HWz.out.apart)
  refine h_one (i := 6) (by kernel_rfl) (o_value _ rfl 10 rfl (by kernel_rfl) hr2 ?_)
  refine ⟨hS, ?_⟩
  simp only [Act.put, List.setIfInBounds_toArray, List.set_cons_zero, List.set_cons_succ]
  refine h_take 7 (.pointer (some ⟨W, 0, none⟩)) rfl 11 rfl (by kernel_rfl) (by kernel_rfl) (by kernel_rfl) (by kernel_rfl) (fun _ _ _ h => h) (fun w' _ => by kernel_rfl) hS ?_
  simp only [Act.put, List.setIfInBounds_toArray, List.set_cons_zero, List.set_cons_succ]
  refine h_take 8 (.pointer (some ⟨W, 0, none⟩)) rfl 12 rfl (by kernel_rfl) (by kernel_rfl) (by kernel_rfl) (by kernel_rfl) (fun _ _ _ h => h) (fun w' _ => by kernel_rfl) hS ?_
  simp only [Act.put, List.setIfInBounds_toArray, List.set_cons_zero, List.set_cons_succ]
  refine h_one (i := 9) (by kernel_rfl) (o_skip rfl rfl (by kernel_rfl) (run_op_storeV _ _ _ rfl W 0 rfl (.slice p2 (bs.length + 32) cap2) rfl rfl (by kernel_rfl) _ _ hW2 (by rw [List.length_cons]; omega)) ?_)
  have hR3 := row_setRow hW2 ([Value.slice p bs.length cap].set 0 (.slice p2 (bs.length + 32) cap2))
  have hO3 := Only.setRow W w2 ([Value.slice p bs.length cap].set 0 (.slice p2 (bs.length + 32) cap2)).toArray
  generalize w2.setRow W ([Value.slice p bs.length cap].set 0 (.slice p2 (bs.length + 32) cap2)).toArray = w3 at hR3 hO3 ⊢
  refine ⟨hS, ?_⟩
  refine wpAnyH_done (by kernel_rfl) ?_ _
  have hst := wr_stored HWz.out.row HWz.out.apart hS2 hO2 HWz.out.low (by rw [List.length_append, HL.out]; exact hR3) hO3
  clear hR3 hO3 hW2 hr2 hO2 hBz hS
  go_wp2_with fail
  go_end0
  exact ⟨rfl, p2, cap2, hst.1, hS1.trans hst.2⟩
end Go.Proofs.Ytghogoijjaiccaa.Wi

/-
  A reader's memory: its struct, and the bytes that are left; the contracts of wire's Reader (fail, take, number, Byte, Num, Long, Left, End), over this seat's translation.
-/
namespace Go.Proofs.Ytghogoijjaiccaa.Wi
open Go.ChangeShapes Go.WideShapes Go.ChangeAt Go.RowKit Go.Proofs.Ytghogoijjaiccaa.Mem Go.Proofs.Ytghogoijjaiccaa.Bt Go.Proofs.Ytghogoijjaiccaa.Tg
set_option linter.unusedVariables false

theorem blk_on (p : Option Addr) (k cap : Nat) : blk (onP p k cap) = blk p := by
  unfold onP
  split
  · rfl
  · cases p with
    | none => rfl
    | some ad => simp only [blk, Option.map_some, Addr.add]; split <;> rfl
/-- A part of what can be read can be read. -/
theorem Rd_take {w : World} {p : Option Addr} {bs : List Nat} (h : Rd w p bs) (k : Nat) : Rd w p (bs.take k) := ⟨fun hne => by
  have hb : bs ≠ [] := by intro e; rw [e] at hne; simp at hne
  obtain ⟨g, o, e, hr⟩ := h.at_ hb
  refine ⟨g, o, e, fun j v hj => hr j v ?_⟩
  have hj2 := (List.getElem?_eq_some_iff.1 hj).1
  rw [u8s_length, List.length_take] at hj2
  unfold u8s at hj ⊢
  rw [List.getElem?_map, List.getElem?_take, if_pos (by omega)] at hj
  rw [List.getElem?_map]; exact hj⟩
theorem Rd_drop {w : World} {p : Option Addr} {bs : List Nat} {cap : Nat} (h : Rd w p bs) (k : Nat) (hc : bs.length ≤ cap) : Rd w (onP p k cap) (bs.drop k) := ⟨fun hne => by
  have hk : k < bs.length := by
    rcases Nat.lt_or_ge k bs.length with h | h
    · exact h
    · exact absurd (List.drop_eq_nil_of_le h) hne
  have hb : bs ≠ [] := by intro e; rw [e] at hk; simp at hk
  obtain ⟨g, o, e, hr⟩ := h.at_ hb
  refine ⟨g, o + k, by rw [e]; exact onP_some g o k cap (by omega), fun j v hj => ?_⟩
  rw [Nat.add_assoc]
  refine hr (k + j) v ?_
  unfold u8s at hj ⊢
  rw [List.getElem?_map, List.getElem?_drop] at hj
  rw [List.getElem?_map]; exact hj⟩
/-- A block without bytes is none that bytes lie in. -/
theorem Rd_only {w w' : World} {R : Nat} {t : TypeId} {cs : List Value} {p : Option Addr} {bs : List Nat} (h : Rd w p bs) (hr : Row w R t cs) (hno : ∀ (i : Nat) (n : Int), cs[i]? ≠ some (.int .u8 n)) (ho : Only R w w') : Rd w' p bs := ⟨fun hne => by
  obtain ⟨g, o, e, hg⟩ := h.at_ hne
  have hne8 : u8s bs ≠ [] := by intro h; apply hne; simpa [u8s] using h
  refine ⟨g, o, e, range_block hg (ho.block g (range_lt hg hne8) (fun eR => ?_))⟩
  subst eR
  obtain ⟨v, hv⟩ : ∃ v, bs[0]? = some v := ⟨_, List.getElem?_eq_getElem (List.length_pos_iff.2 hne)⟩
  have := hg 0 (.int .u8 (v : Int)) (by simp [u8s, hv])
  simp only [World.cell?, show w.heap[g]? = _ from hr] at this
  exact hno (o + 0) v (by simpa using this)⟩
def rcells (p : Option Addr) (cap : Nat) (s : RS) : List Value := [.slice p s.1.length cap, .int .i64 (s.2 : Int)]
theorem rcells_no (p : Option Addr) (cap : Nat) (s : RS) : ∀ (i : Nat) (n : Int), (rcells p cap s)[i]? ≠ some (.int .u8 n) := by
  intro i n
  match i with
  | 0 => simp [rcells]
  | 1 => simp [rcells]
  | i + 2 => simp [rcells]
/-- A reader in this state. -/
structure Rr (w : World) (R d : Nat) (p : Option Addr) (cap : Nat) (s : RS) : Prop where
  row : Row w R 145 (rcells p cap s)
  rd : Rd w p s.1
  le : s.1.length ≤ cap
  nil_ : p = none → cap = 0
  lt : AllLt 256 s.1
  blk_ : ∀ k, blk p = some k → k = d
  dlt : d < w.heap.size
structure RdAt (w : World) (R d : Nat) (s : RS) : Prop where
  ex : ∃ p cap, Rr w R d p cap s
theorem RdAt.row_lt {w : World} {R d : Nat} {s : RS} (h : RdAt w R d s) : R < w.heap.size := by obtain ⟨p, cap, h⟩ := h.ex; exact h.row.lt
theorem RdAt.old {w w' : World} {R d : Nat} {s : RS} (h : RdAt w R d s) (hb : Below w.heap.size w w') : RdAt w' R d s := by
  obtain ⟨p, cap, h⟩ := h.ex
  exact ⟨p, cap, h.row.old hb, h.rd.below hb, h.le, h.nil_, h.lt, h.blk_, Nat.lt_of_lt_of_le h.dlt hb.size⟩
/-- Another struct has changed. -/
theorem RdAt.only {w w' : World} {R d S : Nat} {s : RS} {t : TypeId} {cs : List Value} (h : RdAt w R d s) (hr : Row w S t cs) (hno : ∀ (i : Nat) (n : Int), cs[i]? ≠ some (.int .u8 n)) (ho : Only S w w') (hne : R ≠ S) : RdAt w' R d s := by
  obtain ⟨p, cap, h⟩ := h.ex
  exact ⟨p, cap, h.row.only ho hne, Rd_only h.rd hr hno ho, h.le, h.nil_, h.lt, h.blk_, Nat.lt_of_lt_of_le h.dlt ho.size⟩
/-- A block that is neither the struct's nor the bytes' has changed. -/
theorem RdAt.other {w w' : World} {R d S : Nat} {s : RS} (h : RdAt w R d s) (ho : Only S w w') (hne : R ≠ S) (hd : d ≠ S) : RdAt w' R d s := by
  obtain ⟨p, cap, h⟩ := h.ex
  refine ⟨p, cap, h.row.only ho hne, ⟨fun hb => ?_⟩, h.le, h.nil_, h.lt, h.blk_, Nat.lt_of_lt_of_le h.dlt ho.size⟩
  obtain ⟨g, o, e, hr⟩ := h.rd.at_ hb
  have hg : g = d := h.blk_ g (by rw [e]; rfl)
  have hne8 : u8s s.1 ≠ [] := by intro h; apply hb; simpa [u8s] using h
  exact ⟨g, o, e, range_block hr (ho.block g (range_lt hr hne8) (by omega))⟩
theorem RdAt.dlt {w : World} {R d : Nat} {s : RS} (h : RdAt w R d s) : d < w.heap.size := by obtain ⟨p, cap, h⟩ := h.ex; exact h.dlt
theorem RdAt.lt {w : World} {R d : Nat} {s : RS} (h : RdAt w R d s) : AllLt 256 s.1 := by obtain ⟨p, cap, h⟩ := h.ex; exact h.lt
/-- What a call of a reader leaves. -/
structure RdPost (w : World) (R d : Nat) (v : Value) (s : RS) (e : Ending) (w' : World) : Prop where
  ret : e = .returned v
  at_ : RdAt w' R d s
  only : Only R w w'

set_option maxRecDepth 100000 in
theorem rFail_any (c R d : Nat) (s : RS) (w : World) (h : RdAt w R d s) :
    Calls Try.prog 82 #[.pointer (some ⟨R, 0, none⟩), .int .i64 (c : Int)] w (RdPost w R d (.tuple #[]) ([], failed s.2 c)) := by
  obtain ⟨p, cap, h⟩ := h.ex
  have H := Lib.hid h
  have hc : w.cell? ⟨R, 1, none⟩ = some (.int .i64 (s.2 : Int)) := h.row.cell rfl
  have HR := Lib.hid h.row
  clear h
  by_cases he : s.2 = 0
  · have hz : (((s.2 : Nat) : Int) == 0) = true := by rw [he]; rfl
    have HE : Hid (failed s.2 c = c) := Lib.hid (by unfold failed; rw [if_pos he])
    clear he
    go_enter Try.func82, Try.ntmps82
    go_wp2_with (first
      | ((with_reducible refine arm_storeV (o := ⟨none, .store 45 _ _, _, _, _, _⟩) rfl _ _ _ rfl R 1 rfl _ rfl rfl (by kernel_rfl) _ _ HR.out (by unfold rcells; rw [List.length_cons, List.length_singleton]; omega) ?_); intro w1 hR1 hO1 hZ1)
      | ((with_reducible refine arm_storeV (o := ⟨none, .store 43 _ _, _, _, _, _⟩) rfl _ _ _ rfl R 0 rfl _ rfl rfl (by kernel_rfl) _ _ hR1 (by unfold rcells; rw [List.length_set, List.length_cons, List.length_singleton]; omega) ?_); intro w2 hR2 hO2 hZ2))
    go_end0
    exact ⟨rfl, ⟨none, 0, by rw [HE.out]; exact hR2, ⟨fun h => absurd rfl h⟩, Nat.le_refl _, fun _ => rfl, fun x hx => (by cases hx), fun k hk => (by cases hk), Nat.lt_of_lt_of_le H.out.dlt (hO1.trans hO2).size⟩, hO1.trans hO2⟩
  · have hz : (((s.2 : Nat) : Int) == 0) = false := by simp; omega
    have HE : Hid (failed s.2 c = s.2) := Lib.hid (by unfold failed; rw [if_neg he])
    clear he
    go_enter Try.func82, Try.ntmps82
    go_wp2_with (first
      | ((with_reducible refine arm_storeV (o := ⟨none, .store 43 _ _, _, _, _, _⟩) rfl _ _ _ rfl R 0 rfl _ rfl rfl (by kernel_rfl) _ _ HR.out (by unfold rcells; rw [List.length_cons, List.length_singleton]; omega) ?_); intro w2 hR2 hO2 hZ2))
    go_end0
    exact ⟨rfl, ⟨none, 0, by rw [HE.out]; exact hR2, ⟨fun h => absurd rfl h⟩, Nat.le_refl _, fun _ => rfl, fun x hx => (by cases hx), fun k hk => (by cases hk), Nat.lt_of_lt_of_le H.out.dlt hO2.size⟩, hO2⟩

/-- What take leaves. -/
structure TakePost (w : World) (R d k : Nat) (s : RS) (e : Ending) (w' : World) : Prop where
  ex : ∃ q c, e = .returned (.slice q (takeR k s).1.length c) ∧ Rd w' q (takeR k s).1 ∧ (q = none → (takeR k s).1.length = 0 ∧ c = 0)
  at_ : RdAt w' R d (takeR k s).2
  only : Only R w w'
theorem mem_lt_take {bs : List Nat} (h : AllLt 256 bs) (k : Nat) : AllLt 256 (bs.take k) := fun x hx => h x (List.mem_of_mem_take hx)
theorem takeR_lt {k : Nat} {s : RS} (h : AllLt 256 s.1) : AllLt 256 (takeR k s).1 := by
  unfold takeR; split
  · exact mem_lt_take h k
  · intro x hx; cases hx
theorem takeR_len (k : Nat) (s : RS) : (takeR k s).1.length ≤ k := by
  unfold takeR; split
  · simp; omega
  · simp
set_option maxRecDepth 100000 in
theorem rTake_any (k R d : Nat) (s : RS) (w : World) (h : RdAt w R d s) (hk : k ≤ 1000000) (hm : s.1.length ≤ 1000000) :
    Calls Try.prog 83 #[.pointer (some ⟨R, 0, none⟩), .int .i64 (k : Int)] w (TakePost w R d k s) := by
  obtain ⟨p, cap, h⟩ := h.ex
  have H := Lib.hid h
  have hc : w.cell? ⟨R, 0, none⟩ = some (.slice p s.1.length cap) := h.row.cell rfl
  have hle := h.le
  clear h
  by_cases hs : k ≤ s.1.length
  · have hd : decide ((s.1.length : Int) < (k : Int)) = false := decide_eq_false (by omega)
    have HT : Hid (takeR k s = (s.1.take k, (s.1.drop k, s.2))) := Lib.hid (by unfold takeR; rw [if_pos hs])
    go_enter Try.func83, Try.ntmps83
    go_wp2_with (first
      | ((with_reducible refine at_slot 21 ?_); (refine arm_slice3 (o := ⟨some 21, _, _, _, _, _⟩) rfl _ _ _ _ rfl 5 (by kernel_rfl) (by kernel_rfl) p s.1.length cap rfl .i64 .i64 (k : Int) rfl rfl k rfl (by omega) ?_))
      | ((with_reducible refine at_slot 28 ?_); (refine arm_tail (o := ⟨some 28, _, _, _, _, _⟩) rfl _ _ _ rfl 5 (by kernel_rfl) (by kernel_rfl) p s.1.length cap rfl .i64 (k : Int) rfl k rfl hs ?_))
      | ((with_reducible refine arm_storeV (o := ⟨none, .store 43 _ _, _, _, _, _⟩) rfl _ _ _ rfl R 0 rfl _ rfl rfl (by kernel_rfl) _ _ H.out.row (by unfold rcells; rw [List.length_cons, List.length_singleton]; omega) ?_); intro w2 hR2 hO2 hZ2))
    go_ret
    have hl1 : (s.1.take k).length = k := by rw [List.length_take]; omega
    have hno := rcells_no p cap s
    refine ⟨⟨p, k, by rw [HT.out, hl1]; rfl, by rw [HT.out]; exact Rd_only (Rd_take H.out.rd k) H.out.row hno hO2, fun e => ?_⟩, ⟨onP p k cap, cap - k, ?_⟩, hO2⟩
    · have := H.out.nil_ e
      rw [HT.out, hl1]; omega
    · rw [HT.out]
      refine ⟨?_, Rd_only (Rd_drop H.out.rd k hle) H.out.row hno hO2, by simp only [List.length_drop]; omega, fun e => ?_, fun x hx => H.out.lt x (List.mem_of_mem_drop hx), fun b hb => H.out.blk_ b (by rw [← hb, blk_on]), Nat.lt_of_lt_of_le H.out.dlt hO2.size⟩
      · unfold rcells; rw [List.length_drop]; exact hR2
      · cases p with
        | none => have := H.out.nil_ rfl; omega
        | some ad => unfold onP at e; split at e <;> simp at e
  · have hd : decide ((s.1.length : Int) < (k : Int)) = true := decide_eq_true (by omega)
    have HT : Hid (takeR k s = ([], ([], failed s.2 3))) := Lib.hid (by unfold takeR; rw [if_neg hs])
    go_enter Try.func83, Try.ntmps83
    go_wp2_with fail
    refine (rFail_any 3 R d s w ⟨p, cap, H.out⟩).mono ?_
    rintro e w1 ⟨rfl, hA, hO⟩
    go_wp2_with fail
    go_ret
    exact ⟨⟨none, 0, by rw [HT.out]; rfl, by rw [HT.out]; exact ⟨fun h => absurd rfl h⟩, fun _ => by rw [HT.out]; exact ⟨rfl, rfl⟩⟩, by rw [HT.out]; exact hA, hO⟩
end Go.Proofs.Ytghogoijjaiccaa.Wi

/-
  The contracts of wire's Reader (number, Byte, Num, Long, Left, End), over this seat's translation.
-/
namespace Go.Proofs.Ytghogoijjaiccaa.Wi
open Go.ChangeShapes Go.WideShapes Go.ChangeAt Go.RowKit Go.Proofs.Ytghogoijjaiccaa.Mem Go.Proofs.Ytghogoijjaiccaa.Bt Go.Proofs.Ytghogoijjaiccaa.Tg
set_option linter.unusedVariables false

theorem or_byte (x y : Nat) (hx : x < 256 ^ 7) (hy : y < 256) : bits BinOp.or IntKind.u64 ((x : Int) * 256) (y : Int) = ((x * 256 + y : Nat) : Int) := by
  have h := bits_or_u64_nat (x * 256) y (by omega) (by omega)
  rw [show ((x : Int) * 256) = ((x * 256 : Nat) : Int) by omega, h]
  congr 1
  rw [show x * 256 = 2 ^ 8 * x by omega]
  exact (Nat.two_pow_add_eq_or_of_lt (by omega) x).symm
/-- What holds in number's loop. -/
structure RnRel (w : World) (t : List Nat) (i v : Value) (wr : World) : Prop where
  ex : ∃ k : Nat, k ≤ t.length ∧ i = .int .i64 k ∧ v = .int .u64 ((numOf (t.take k) : Nat) : Int)
  same : w = wr
set_option maxHeartbeats 1000000 in
set_option maxRecDepth 100000 in
theorem rNumber_any (k R d : Nat) (s : RS) (w : World) (h : RdAt w R d s) (hk : k ≤ 8) (hm : s.1.length ≤ 1000000) :
    Calls Try.prog 80 #[.pointer (some ⟨R, 0, none⟩), .int .i64 (k : Int)] w (RdPost w R d (.int .u64 ((numR k s).1 : Int)) (numR k s).2) := by
  have hlt := takeR_lt (k := k) h.lt
  have hlen := takeR_len k s
  have H := Lib.hid h; clear h
  go_enter Try.func80, Try.ntmps80
  go_wp2_with fail
  refine (rTake_any k R d s w H.out (by omega) hm).mono ?_
  rintro e w1 ⟨⟨q, c, rfl, hrd, _⟩, hA, hO⟩
  have HA : Hid (RdAt w1 R d (numR k s).2) := Lib.hid hA
  have HN : Hid ((numR k s).1 = numOf (takeR k s).1) := Lib.hid rfl
  have HLT := Lib.hid hlt
  clear hA H hlt
  generalize (takeR k s).1 = t at hrd HN HLT hlen ⊢
  have h0 : RnRel w1 t (.int .i64 0) (.int .u64 0) w1 := ⟨⟨0, by omega, rfl, by simp [numOf]⟩, rfl⟩
  have HRD := Lib.hid hrd; clear hrd
  go_wp2_with fail
  go_loopw [13, 6] (fun i v wr => RnRel w1 t i v wr) (fun i _ _ => t.length - (intOf i).toNat)
  case atStart => exact h0
  case round =>
    clear h0
    obtain ⟨⟨j, hj, rfl, rfl⟩, rfl⟩ := hrel
    by_cases hlt : j < t.length
    · obtain ⟨g, o, rfl, hc⟩ := HRD.out.cell hlt
      have ij : (j : Int) < (t.length : Int) := by omega
      have HS := Lib.hid (take_snoc t j hlt)
      have hx : numOf (t.take j) < 256 ^ 7 := Nat.lt_of_lt_of_le (numOf_lt _ (mem_lt_take HLT.out j)) (Nat.pow_le_pow_right (by omega) (by rw [List.length_take]; omega))
      have hy : t.getD j 0 < 256 := getD_lt HLT.out (by omega) j
      generalize t.getD j 0 = y at hc hy HS
      generalize hxx : numOf (t.take j) = x at hx ⊢
      have HX := Lib.hid hxx; clear hxx
      go_wp2_with fail
      rw [or_byte x y hx hy]
      refine ⟨⟨⟨j + 1, by omega, by go_num, ?_⟩, rfl⟩, ?_⟩
      · rw [HS.out, numOf_snoc, HX.out]
      · simp [intOf]; omega
    · obtain rfl : j = t.length := by omega
      rw [List.take_of_length_le (Nat.le_refl _)]
      go_wp2_with fail
      go_ret
      exact ⟨by rw [HN.out]; rfl, HA.out, hO⟩
theorem numR_lt {k : Nat} {s : RS} (h : AllLt 256 s.1) : (numR k s).1 < 256 ^ k :=
  Nat.lt_of_lt_of_le (numOf_lt _ (takeR_lt h)) (Nat.pow_le_pow_right (by omega) (takeR_len k s))
set_option maxRecDepth 100000 in
theorem rByte_any (R d : Nat) (s : RS) (w : World) (h : RdAt w R d s) (hm : s.1.length ≤ 1000000) :
    Calls Try.prog 73 #[.pointer (some ⟨R, 0, none⟩)] w (RdPost w R d (.int .u8 ((numR 1 s).1 : Int)) (numR 1 s).2) := by
  have hlt := numR_lt (k := 1) h.lt
  have H := Lib.hid h; clear h
  go_enter Try.func73, Try.ntmps73
  go_wp2_with fail
  refine (rNumber_any 1 R d s w H.out (by omega) hm).mono ?_
  rintro e w1 ⟨rfl, hA, hO⟩
  generalize hn : (numR 1 s).1 = n at hlt ⊢
  have HN := Lib.hid hn; clear hn
  go_wp2_with fail
  go_ret
  exact ⟨by rw [HN.out]; simp, hA, hO⟩
set_option maxRecDepth 100000 in
theorem rNum_any (R d : Nat) (s : RS) (w : World) (h : RdAt w R d s) (hm : s.1.length ≤ 1000000) :
    Calls Try.prog 70 #[.pointer (some ⟨R, 0, none⟩)] w (RdPost w R d (.int .u32 ((numR 4 s).1 : Int)) (numR 4 s).2) := by
  have hlt := numR_lt (k := 4) h.lt
  have H := Lib.hid h; clear h
  go_enter Try.func70, Try.ntmps70
  go_wp2_with fail
  refine (rNumber_any 4 R d s w H.out (by omega) hm).mono ?_
  rintro e w1 ⟨rfl, hA, hO⟩
  generalize hn : (numR 4 s).1 = n at hlt ⊢
  have HN := Lib.hid hn; clear hn
  go_wp2_with fail
  go_ret
  exact ⟨by rw [HN.out]; simp, hA, hO⟩
set_option maxRecDepth 100000 in
theorem rLong_any (R d : Nat) (s : RS) (w : World) (h : RdAt w R d s) (hm : s.1.length ≤ 1000000) :
    Calls Try.prog 84 #[.pointer (some ⟨R, 0, none⟩)] w (RdPost w R d (.int .u64 ((numR 8 s).1 : Int)) (numR 8 s).2) := by
  have H := Lib.hid h; clear h
  go_enter Try.func84, Try.ntmps84
  go_wp2_with fail
  refine (rNumber_any 8 R d s w H.out (by omega) hm).mono ?_
  rintro e w1 ⟨rfl, hA, hO⟩
  generalize hn : (numR 8 s).1 = n
  have HN := Lib.hid hn; clear hn
  go_wp2_with fail
  go_ret
  exact ⟨by rw [HN.out]; rfl, hA, hO⟩
set_option maxRecDepth 100000 in
theorem rEnd_any (R d : Nat) (s : RS) (w : World) (h : RdAt w R d s) :
    Calls Try.prog 71 #[.pointer (some ⟨R, 0, none⟩)] w fun e w' => e = .returned (.int .i64 (endR s : Int)) ∧ w = w' := by
  obtain ⟨p, cap, h⟩ := h.ex
  have hc : w.cell? ⟨R, 0, none⟩ = some (.slice p s.1.length cap) := h.row.cell rfl
  have hc1 : w.cell? ⟨R, 1, none⟩ = some (.int .i64 (s.2 : Int)) := h.row.cell rfl
  clear h
  by_cases he : s.2 = 0
  · have hz : (((s.2 : Nat) : Int) != 0) = false := by rw [he]; rfl
    by_cases hb : s.1 = []
    · have hd : decide (0 < s.1.length) = false := decide_eq_false (by rw [hb]; simp)
      have HE : Hid (endR s = 0) := Lib.hid (by unfold endR; rw [if_neg (by omega), if_pos hb])
      clear he hb
      go_enter Try.func71, Try.ntmps71
      go_wp2_with fail
      go_ret
      exact ⟨by rw [HE.out]; rfl, rfl⟩
    · have hd : decide (0 < s.1.length) = true := decide_eq_true (List.length_pos_iff.2 hb)
      have HE : Hid (endR s = 4) := Lib.hid (by unfold endR; rw [if_neg (by omega), if_neg hb])
      clear he hb
      go_enter Try.func71, Try.ntmps71
      go_wp2_with fail
      go_ret
      exact ⟨by rw [HE.out]; rfl, rfl⟩
  · have hz : (((s.2 : Nat) : Int) != 0) = true := by simp; omega
    have HE : Hid (endR s = s.2) := Lib.hid (by unfold endR; rw [if_pos he])
    clear he
    go_enter Try.func71, Try.ntmps71
    go_wp2_with fail
    go_ret
    exact ⟨by rw [HE.out]; rfl, rfl⟩
theorem built_reader (p : Option Addr) (n c : Nat) : Try.prog.built 145 [(0, .slice p n c)] = some [.slice p n c, .int .i64 0].toArray := by kernel_rfl
/-- What New leaves. -/
structure NewPost (w : World) (bs : List Nat) (e : Ending) (w' : World) : Prop where
  ex : ∃ R d, e = .returned (.pointer (some ⟨R, 0, none⟩)) ∧ RdAt w' R d (bs, 0) ∧ w.heap.size ≤ R ∧ w.heap.size ≤ d
  bel : Below w.heap.size w w'
set_option maxRecDepth 100000 in
theorem rNew_any (bs : List Nat) (p : Option Addr) (cap : Nat) (w : World) (h : Rd w p bs) (hn : p = none → bs.length = 0 ∧ cap = 0) (hl : bs.length ≤ 1000000) (hlt : AllLt 256 bs) :
    Calls Try.prog 69 #[.slice p bs.length cap] w (NewPost w bs) := by
  have H := Lib.hid h; have HN := Lib.hid hn; have HLT := Lib.hid hlt
  clear h hn hlt
  go_enter Try.func69, Try.ntmps69
  go_wp2_with fail
  refine (clone_any bs p cap w H.out HN.out hl).mono ?_
  rintro e w1 ⟨⟨q, c, rfl, hO⟩, hB⟩
  have HO := Lib.hid hO; clear hO
  go_wp2_with (first
    | ((with_reducible refine at_slot 5 ?_); (refine arm_build (o := ⟨some 5, _, _, _, _, _⟩) rfl _ _ rfl [.slice q bs.length c, .int .i64 0] (by simp only [List.map_toArray, List.map_cons, List.map_nil]; exact built_reader _ _ _) ?_))
    | ((with_reducible refine at_slot 6 ?_); (refine arm_box (o := ⟨some 6, _, _, _, _, _⟩) rfl _ _ rfl [.slice q bs.length c, .int .i64 0] rfl ?_); intro R w2 hR hR2 hN2))
  go_ret
  have e1 := hR.out
  have hO2 := HO.out.below hN2.below
  have hs1 := hB.size
  have hs2 := hN2.size
  obtain ⟨d, hd1, hd2, hd3⟩ : ∃ d, (∀ k, blk q = some k → k = d) ∧ w.heap.size ≤ d ∧ d < w2.heap.size := by
    cases hq : blk q with
    | none => exact ⟨R, fun k hk => (by cases hk), by omega, hR2.lt⟩
    | some g => exact ⟨g, fun k hk => (Option.some.inj hk).symm, own_low hO2 g hq, (own_blk hO2 hq).2.1⟩
  exact ⟨⟨R, d, rfl, ⟨q, c, hR2, hO2.rd, hO2.at.1, fun e => (own_none hO2 e).2, HLT.out, hd1, hd3⟩, by omega, hd2⟩, below_step hB hB.size hN2.below⟩
end Go.Proofs.Ytghogoijjaiccaa.Wi

/-
  The contracts of wire's Reader (Text, Hash), over this seat's translation.
-/
namespace Go.Proofs.Ytghogoijjaiccaa.Wi
open Go.ChangeShapes Go.WideShapes Go.ChangeAt Go.RowKit Go.Proofs.Ytghogoijjaiccaa.Mem Go.Proofs.Ytghogoijjaiccaa.Bt Go.Proofs.Ytghogoijjaiccaa.Tg
set_option linter.unusedVariables false

theorem takeR_left (k : Nat) (s : RS) : (takeR k s).2.1.length ≤ s.1.length := by
  unfold takeR; split
  · simp
  · simp
/-- What Text leaves. -/
structure TextPost (w : World) (R d : Nat) (bs : List Nat) (s : RS) (e : Ending) (w' : World) : Prop where
  ex : ∃ q c, e = .returned (.slice q bs.length c) ∧ Rd w' q bs
  at_ : RdAt w' R d s
  only : Only R w w'
set_option maxRecDepth 100000 in
theorem rText_any (m : Int) (R d : Nat) (s : RS) (w : World) (h : RdAt w R d s) (hm : s.1.length ≤ 1000000) :
    Calls Try.prog 74 #[.pointer (some ⟨R, 0, none⟩), .int .i64 m] w (TextPost w R d (textR m s).1 (textR m s).2) := by
  have hlt := numR_lt (k := 1) h.lt
  have H := Lib.hid h; clear h
  have hle : (numR 1 s).2.1.length ≤ 1000000 := Nat.le_trans (takeR_left 1 s) hm
  by_cases hb : m < ((numR 1 s).1 : Int)
  · have HT : Hid (textR m s = ([], ([], failed (numR 1 s).2.2 4))) := Lib.hid (by unfold textR; rw [if_pos hb])
    rw [HT.out]
    go_enter Try.func74, Try.ntmps74
    go_wp2_with fail
    refine (rByte_any R d s w H.out hm).mono ?_
    rintro e w1 ⟨rfl, hA, hO⟩
    have hd : decide (m < ((numR 1 s).1 : Int)) = true := decide_eq_true hb
    generalize (numR 1 s).1 = n at hlt hd ⊢
    clear hb HT
    go_wp2_with fail
    refine (rFail_any 4 R d _ w1 hA).mono ?_
    rintro e w2 ⟨rfl, hA2, hO2⟩
    go_wp2_with fail
    go_ret
    exact ⟨⟨none, 0, rfl, ⟨fun h => absurd rfl h⟩⟩, hA2, hO.trans hO2⟩
  · have HT : Hid (textR m s = takeR (numR 1 s).1 (numR 1 s).2) := Lib.hid (by unfold textR; rw [if_neg hb])
    rw [HT.out]
    go_enter Try.func74, Try.ntmps74
    go_wp2_with fail
    refine (rByte_any R d s w H.out hm).mono ?_
    rintro e w1 ⟨rfl, hA, hO⟩
    have hd : decide (m < ((numR 1 s).1 : Int)) = false := decide_eq_false (by omega)
    generalize hn : (numR 1 s).1 = n at hlt hd ⊢
    have HN := Lib.hid hn
    clear hb HT hn
    go_wp2_with fail
    refine (rTake_any n R d _ w1 hA (by omega) hle).mono ?_
    rintro e w2 ⟨⟨q, c, rfl, hrd, hnil⟩, hA2, hO2⟩
    have hl2 := takeR_len n (numR 1 s).2
    have HRD := Lib.hid hrd; have HNIL := Lib.hid hnil; have HA2 := Lib.hid hA2
    clear hrd hnil hA2
    go_wp2_with fail
    refine (clone_any _ q c w2 HRD.out HNIL.out (by omega)).mono ?_
    rintro e w3 ⟨⟨q3, c3, rfl, hO3⟩, hB3⟩
    go_wp2_with fail
    go_ret
    rw [HN.out]
    exact ⟨⟨q3, c3, rfl, hO3.rd⟩, HA2.out.old hB3, (hO.trans hO2).trans (Only.of_below R hB3)⟩
section
variable {P : Program} {o : Oper} {a : Act} {w : World}
/-- 'copy(dst, src)' into a row, run; src may be nil. -/
theorem run_op_copy (d s : Operand) (dT sT : TypeId) (ho : o.op = .call { callee := .builtin .copy, args := #[d, s], argTypes := #[dT, sT] }) (e : TypeId) (hu : P.underlying dT = some (.slice e)) (hse : (P.info? e).map (·.size) = some 1)
    (b off dLen dCap : Nat) (hd : a.eval d = .slice (some ⟨b, off, none⟩) dLen dCap) (q : Option Addr) (sLen sCap : Nat) (hs : a.eval s = .slice q sLen sCap) (vs : List Value) (hvm : vs.length = sLen) (hm : sLen ≤ dLen) (hv : vs ≠ [] → ∃ g go, q = some ⟨g, go, none⟩ ∧ w.rangeAt g go vs)
    (hq : q = none → sLen = 0) (u : TypeId) (cs : List Value) (hr : Row w b u cs) (hf : off + vs.length ≤ cs.length) (h1 : OneCells vs) :
    ∃ w', (execOp a.eval o).run P w = .ok (.value (.int .i64 (sLen : Int))) w' ∧ Row w' b u (lay cs off vs) ∧ Only b w w' := by
  subst hvm
  obtain ⟨dst, op, ty, pos, after, guard⟩ := o
  simp only at ho
  subst ho
  have hmin : Nat.min vs.length dLen = vs.length := Nat.min_eq_left hm
  cases q with
  | none =>
    have hnil : vs = [] := List.eq_nil_of_length_eq_zero (hq rfl)
    subst hnil
    refine ⟨w, ?_, by unfold lay; simpa using hr, Only.refl _ _⟩
    rw [BigFrame.execOp_builtin, BigFrame.builtin_copy]
    cases hi : P.info? e with
    | none => simp [hi] at hse
    | some ie =>
      simp only [List.map_toArray, List.map_cons, List.map_nil, hd, hs]
      simp [Builtin.copy_, run_underlying hu, Builtin.lenOf, Builtin.firstCells, sizeOf, typeInfo, hi, storeCells, goInt]
  | some ad =>
    have hv2 : ∀ j v, vs[j]? = some v → w.cell? (ad.add j) = some v := fun j v hj => by
      obtain ⟨g, go, e, hr⟩ := hv (by intro e; subst e; simp at hj)
      rw [Option.some.inj e, Addr.add_mid]
      exact hr j v hj
    have hc := run_copy_row P w dT sT ty e b off dLen dCap ad vs.length sCap cs.toArray u vs hu hse hr hmin.symm hv2 (by simpa using hf) h1
    refine ⟨_, ?_, row_setRow hr (lay cs off vs), Only.setRow _ _ _⟩
    rw [BigFrame.execOp_builtin, BigFrame.builtin_copy]
    simp only [List.map_toArray, List.map_cons, List.map_nil, hd, hs, Sem.run_bind, hc, Result.andThen_ok, Sem.run_pure, goInt, lay]
end
theorem z_hash : Mem.Zero Try.prog 24 (u8s (List.replicate 32 0)) := by unfold Mem.Zero; kernel_rfl
theorem sz_hash : Sized Try.prog 24 32 := ⟨.array 32 5, by kernel_rfl, rfl, by kernel_rfl⟩
theorem hashR_len (s : RS) : (hashR s).1.length = 32 := by
  unfold hashR
  by_cases h : 32 ≤ s.1.length
  · simp only [if_pos h, List.length_take]; omega
  · simp only [if_neg h, List.length_replicate]
theorem hashR_lay (s : RS) : lay (u8s (List.replicate 32 0)) 0 (u8s (takeR 32 s).1) = u8s (hashR s).1 := by
  unfold hashR takeR
  by_cases h : 32 ≤ s.1.length
  · simp only [if_pos h]
    exact lay_all _ _ (by rw [u8s_length, u8s_length, List.length_take, List.length_replicate]; omega)
  · simp only [if_neg h]
    unfold lay u8s
    simp
set_option maxHeartbeats 1000000 in
set_option maxRecDepth 100000 in
theorem rHash_any (R d : Nat) (s : RS) (w : World) (h : RdAt w R d s) (hm : s.1.length ≤ 1000000) :
    Calls Try.prog 75 #[.pointer (some ⟨R, 0, none⟩)] w (RdPost w R d (.agg (u8s (hashR s).1).toArray) (hashR s).2) := by
  have hRlt := h.row_lt
  have hd := h.dlt
  have H := Lib.hid h; clear h
  obtain ⟨zs, hzs⟩ : ∃ zs : List Nat, zs = List.replicate 32 0 := ⟨_, rfl⟩
  have HZ := Lib.hid hzs
  have HZL := Lib.hid (show zs.length = 32 by rw [hzs]; simp)
  have HZ0 : Hid (Mem.Zero Try.prog 24 (u8s zs)) := Lib.hid (by rw [hzs]; exact z_hash)
  clear hzs
  go_enter Try.func75, Try.ntmps75
  go_wp2_with (first
    | ((with_reducible refine at_slot 2 ?_); (refine arm_alloc (o := ⟨some 2, _, _, _, _, _⟩) rfl _ rfl _ HZ0.out ?_); intro T w1 hT hR1 hN1)
    | ((with_reducible refine at_slot 3 ?_); (refine arm_alloc (o := ⟨some 3, _, _, _, _, _⟩) rfl _ rfl _ HZ0.out ?_); intro B w2 hB hR2 hN2))
  have eT := hT.out; have eB := hB.out; have s1 := hN1.size
  have belz : Below w.heap.size w w2.drew := (below_step hN1.below hN1.below.size hN2.below).trans ((Below.refl _ _).drew)
  have hTz : Row w2.drew T 24 (u8s zs) := show Row w2 T 24 (u8s zs) from hR1.old hN2.below
  have hBz : Row w2.drew B 24 (u8s zs) := hR2
  have HAz := Lib.hid (H.out.old belz)
  have lT : w.heap.size ≤ T := by omega
  have lB : w.heap.size ≤ B := by omega
  have HNE : Hid (T ≠ R ∧ B ≠ R ∧ T ≠ B) := Lib.hid ⟨by omega, by omega, by omega⟩
  clear eT eB s1 hT hB hR1 hN1 hR2 hN2 hRlt
  refine wp_region_held (S := fun w' => True) (by kernel_rfl) ?_
  change wpAnyH _ _ _ _ _ _ _ _ w2.drew
  generalize w2.drew = wz at belz hTz hBz HAz ⊢
  have hS : True := True.intro
  refine h_take 0 (.slice (some ⟨B, 0, none⟩) 32 32) rfl 4 rfl (by kernel_rfl) (by kernel_rfl) (by kernel_rfl) (by kernel_rfl) (fun _ _ _ h => h) (fun w' _ => run_op_sliceAll _ _ rfl 32 5 (by kernel_rfl) (by kernel_rfl) B 0 rfl (by omega) w') hS ?_
  simp only [Act.put, List.setIfInBounds_toArray, List.set_cons_zero, List.set_cons_succ]
  refine h_take 1 (.pointer (some ⟨R, 0, none⟩)) rfl 5 rfl (by kernel_rfl) (by kernel_rfl) (by kernel_rfl) (by kernel_rfl) (fun _ _ _ h => h) (fun w' _ => by kernel_rfl) hS ?_
  simp only [Act.put, List.setIfInBounds_toArray, List.set_cons_zero, List.set_cons_succ]
  refine h_one (i := 2) (by kernel_rfl) (o_call rfl 6 rfl (by kernel_rfl) (run_op_call 83 _ _ rfl #[.pointer (some ⟨R, 0, none⟩), .int .i64 32] (by simp only [List.map_toArray, List.map_cons, List.map_nil]; rfl) Try.func83 (by kernel_rfl) (by kernel_rfl) wz) (rTake_any 32 R d s wz HAz.out (by omega) hm) ?_)
  rintro e y1 ⟨⟨q, c, rfl, hrd, hnil⟩, hA1, hO1⟩
  refine ⟨_, rfl, hS, ?_⟩
  simp only [Act.put, List.setIfInBounds_toArray, List.set_cons_zero, List.set_cons_succ]
  have hB1 := hBz.only hO1 HNE.out.2.1
  have hT1 := hTz.only hO1 HNE.out.1
  have hlen := takeR_len 32 s
  obtain ⟨y2, hr2, hB2, hO2⟩ := run_op_copy (P := Try.prog) (w := y1) (o := ⟨some 7, .call { callee := .builtin .copy, args := #[.tmp 4, .tmp 6], argTypes := #[43, 43] }, 3, "wire.go:80", #[⟨0, .data⟩, ⟨2, .data⟩, ⟨2, .chain⟩], none⟩) (a := { tmps := #[.pointer (some ⟨R, 0, none⟩), undef, .pointer (some ⟨T, 0, none⟩), .pointer (some ⟨B, 0, none⟩), .slice (some ⟨B, 0, none⟩) 32 32, .pointer (some ⟨R, 0, none⟩), .slice q (takeR 32 s).1.length c, undef, undef], defers := [] })
    _ _ 43 43 rfl 5 (by kernel_rfl) (by kernel_rfl) B 0 32 32 rfl q (takeR 32 s).1.length c rfl (u8s (takeR 32 s).1) (u8s_length _) hlen (fun hne => hrd.at_ (by intro e; apply hne; rw [e]; rfl)) (fun e => (hnil e).1) _ _ hB1 (by rw [u8s_length, u8s_length, HZL.out]; omega) (u8s_one _)
  refine h_one (i := 3) (by kernel_rfl) (o_value _ rfl 7 rfl (by kernel_rfl) hr2 ?_)
  refine ⟨hS, ?_⟩
  simp only [Act.put, List.setIfInBounds_toArray, List.set_cons_zero, List.set_cons_succ]
  refine wpAnyH_done (by kernel_rfl) ?_ _
  have hT2 := hT1.only hO2 HNE.out.2.2
  have hB3 : Row y2 B 24 (u8s (hashR s).1) := hB2.congr (by rw [HZ.out]; exact hashR_lay s)
  have HA2 : Hid (RdAt y2 R d (hashR s).2) := Lib.hid (hA1.other hO2 (Ne.symm HNE.out.2.1) (by omega))
  have HHL := Lib.hid (hashR_len s)
  have hOa : Only R w y1 := (Only.of_below R belz).trans hO1
  clear hr2 hrd hnil hB1 hT1 hB2 hA1 hS
  generalize hhv : (hashR s).1 = hv at hB3 HHL
  have HHV := Lib.hid hhv; clear hhv
  go_wp2_with (first
    | ((with_reducible refine at_slot 8 ?_); (refine arm_load (o := ⟨some 8, _, _, _, _, _⟩) rfl _ _ rfl B 0 rfl (u8s hv) (hB3.range 0 _ (fun j v hj => by rw [Nat.zero_add]; exact hj)) (by rw [u8s_length, HHL.out]; exact sz_hash) ?_))
    | ((with_reducible refine arm_store (o := ⟨none, _, _, _, _, _⟩) rfl _ _ _ rfl T 0 rfl (u8s hv) rfl _ _ hT2 (by rw [u8s_length, u8s_length, HHL.out, HZL.out]; omega) (u8s_one _) (by rw [u8s_length, HHL.out]; exact sz_hash) ?_); intro w4 hR4 hO4 hS4))
  refine bodyPost_ret (v := .agg (u8s hv).toArray) (result_row (p := 2) (ty := 24) (u := 24) (by kernel_rfl) _ _ T _ rfl (hR4.congr (lay_all _ _ (by rw [u8s_length, u8s_length, HHL.out, HZL.out]))) (by rw [u8s_length, HHL.out]; exact sz_hash)) rfl ⟨by rw [HHV.out], ?_, only_new (only_new hOa hO2 lB) hO4 lT⟩
  exact HA2.out.other hO4 (Ne.symm HNE.out.1) (by omega)
end Go.Proofs.Ytghogoijjaiccaa.Wi
