import Derived.Test.YtaihhbiocolhcaaDoorBytAll
import Derived.Test.YtaihhbiocolhcaaDoorMemAll
import Derived.Maps.AppendAt
import Derived.PlainAid
import Derived.Test.YtaihhbiocolhcaaDoorShaAll
/-
  What is written and read, over numbers and lists: bytes of a number, things and their bytes, a reader's state; what is written is read, what is cut goes wrong. No program.
-/
namespace Go.Proofs.YtaihhbiocolhcaaDoor.Wi
set_option linter.unusedVariables false

/-- A number as so many bytes, the highest first. -/
def put : Nat → Nat → List Nat
  | _, 0 => []
  | n, k + 1 => put (n / 256) k ++ [n % 256]
theorem put_length : ∀ k n, (put n k).length = k
  | 0, _ => rfl
  | k + 1, n => by simp [put, put_length k]
theorem put_lt : ∀ k n, ∀ x ∈ put n k, x < 256
  | 0, _ => by simp [put]
  | k + 1, n => by
    intro x hx
    rcases List.mem_append.1 hx with h | h
    · exact put_lt k _ x h
    · simp at h; omega
theorem put_cons : ∀ k n, put n (k + 1) = (n / 256 ^ k % 256) :: put n k
  | 0, n => by simp [put]
  | k + 1, n => by
    have h := put_cons k (n / 256)
    rw [put, h, List.cons_append, show put (n / 256) k ++ [n % 256] = put n (k + 1) from rfl, Nat.div_div_eq_div_mul, Nat.pow_succ, Nat.mul_comm]
theorem put_drop : ∀ s n k, k ≤ s → (put n s).drop k = put n (s - k)
  | 0, n, k, h => by obtain rfl : k = 0 := by omega
                     rfl
  | s + 1, n, 0, h => rfl
  | s + 1, n, k + 1, h => by rw [put_cons, List.drop_succ_cons, put_drop s n k (by omega), show s + 1 - (k + 1) = s - k by omega]
theorem put_take (s n k : Nat) (h : k < s) : (put n s).take (k + 1) = (put n s).take k ++ [n / 256 ^ (s - 1 - k) % 256] := by
  have hl := put_length s n
  have hd := put_drop s n k (by omega)
  obtain ⟨j, hj⟩ : ∃ j, s - k = j + 1 := ⟨s - k - 1, by omega⟩
  rw [hj, put_cons] at hd
  have hg : (put n s)[k]? = some (n / 256 ^ j % 256) := by
    have := congrArg (fun l => l[0]?) hd
    simpa [List.getElem?_drop] using this
  rw [List.take_add_one, hg, show s - 1 - k = j by omega]
  rfl
theorem put_mod : ∀ k n, put (n % 256 ^ k) k = put n k
  | 0, n => rfl
  | k + 1, n => by
    have h1 : n % 256 ^ (k + 1) / 256 = n / 256 % 256 ^ k := by rw [Nat.pow_succ, Nat.mul_comm, Nat.mod_mul_right_div_self]
    have h2 : n % 256 ^ (k + 1) % 256 = n % 256 := by rw [Nat.pow_succ]; exact Nat.mod_mul_left_mod _ _ _
    rw [put, put, h1, h2, put_mod k (n / 256)]
/-- The number of some bytes. -/
def numOf (l : List Nat) : Nat := l.foldl (fun a b => a * 256 + b) 0
theorem numOf_snoc (l : List Nat) (b : Nat) : numOf (l ++ [b]) = numOf l * 256 + b := by simp [numOf]
theorem numOf_put : ∀ k n, numOf (put n k) = n % 256 ^ k
  | 0, n => by simp [put, numOf, Nat.mod_one]
  | k + 1, n => by
    rw [put, numOf_snoc, numOf_put k, Nat.pow_succ, Nat.mul_comm (256 ^ k) 256, Nat.mod_mul, Nat.mul_comm]
    omega
theorem fold_lt : ∀ (l : List Nat) (a : Nat), (∀ x ∈ l, x < 256) → l.foldl (fun a b => a * 256 + b) a < (a + 1) * 256 ^ l.length
  | [], a, _ => by simp
  | b :: l, a, h => by
    have h1 := fold_lt l (a * 256 + b) (fun x hx => h x (by simp [hx]))
    have h2 := h b (by simp)
    have h3 : (a * 256 + b + 1) * 256 ^ l.length ≤ (a + 1) * 256 * 256 ^ l.length := Nat.mul_le_mul_right _ (by omega)
    rw [List.foldl_cons, List.length_cons, Nat.pow_succ, Nat.mul_comm (256 ^ l.length) 256, ← Nat.mul_assoc]
    omega
theorem numOf_lt (l : List Nat) (h : ∀ x ∈ l, x < 256) : numOf l < 256 ^ l.length := by
  have := fold_lt l 0 h
  simpa [numOf] using this
theorem take_snoc (l : List Nat) (k : Nat) (h : k < l.length) : l.take (k + 1) = l.take k ++ [l.getD k 0] := by
  rw [List.take_add_one, List.getElem?_eq_getElem h]
  simp [List.getD_eq_getElem?_getD, List.getElem?_eq_getElem h]

/-- A text's bytes, if it may be. -/
def txt (b : List Nat) : List Nat := if b.length ≤ 255 then b.length :: b else []
/-- A reader's state: the bytes that are left, and what went wrong. -/
abbrev RS := List Nat × Nat
def failed (e c : Nat) : Nat := if e = 0 then c else e
def takeR (k : Nat) (s : RS) : List Nat × RS := if k ≤ s.1.length then (s.1.take k, (s.1.drop k, s.2)) else ([], ([], failed s.2 3))
def numR (k : Nat) (s : RS) : Nat × RS := (numOf (takeR k s).1, (takeR k s).2)
def hashR (s : RS) : List Nat × RS := (if 32 ≤ s.1.length then s.1.take 32 else List.replicate 32 0, (takeR 32 s).2)
def textR (m : Int) (s : RS) : List Nat × RS := if m < ((numR 1 s).1 : Int) then ([], ([], failed (numR 1 s).2.2 4)) else takeR (numR 1 s).1 (numR 1 s).2
def endR (s : RS) : Nat := if s.2 ≠ 0 then s.2 else if s.1 = [] then 0 else 4
end Go.Proofs.YtaihhbiocolhcaaDoor.Wi

/-
  Slices of bytes that grow beside others; a writer's memory: its struct, and the bytes that it holds. Over this seat's translation.
-/
namespace Go.Proofs.YtaihhbiocolhcaaDoor.Wi
open Go.ChangeShapes Go.WideShapes Go.ChangeAt Go.RowKit Go.Proofs.YtaihhbiocolhcaaDoor.Mem Go.Proofs.YtaihhbiocolhcaaDoor.Bt Go.Proofs.YtaihhbiocolhcaaDoor.Tg
set_option linter.unusedVariables false

/-- The block in which a slice lies. -/
def blk (p : Option Addr) : Option Nat := p.map (·.block)
/-- A slice at p has become one at p'; struct W may have changed, too; no other block that was there. -/
structure Step (W : Option Nat) (p p' : Option Addr) (w w' : World) : Prop where
  os : w'.os = w.os
  tape : w'.tape = w.tape
  output : w'.output = w.output
  size : w.heap.size ≤ w'.heap.size
  block : ∀ k, k < w.heap.size → W ≠ some k → blk p ≠ some k → w'.heap[k]? = w.heap[k]?
  next : blk p' = blk p ∨ ∃ g, blk p' = some g ∧ w.heap.size ≤ g
theorem Step.refl (W : Option Nat) (p : Option Addr) (w : World) : Step W p p w w := ⟨rfl, rfl, rfl, Nat.le_refl _, fun _ _ _ _ => rfl, .inl rfl⟩
theorem Step.trans {W : Option Nat} {p p1 p2 : Option Addr} {w w1 w2 : World} (h : Step W p p1 w w1) (g : Step W p1 p2 w1 w2) : Step W p p2 w w2 :=
  ⟨g.os.trans h.os, g.tape.trans h.tape, g.output.trans h.output, Nat.le_trans h.size g.size, fun k hk h1 h2 => by
    have hk1 : blk p1 ≠ some k := by
      rcases h.next with e | ⟨b, e, hb⟩
      · rw [e]; exact h2
      · rw [e]; intro e'; have := Option.some.inj e'; omega
    exact (g.block k (Nat.lt_of_lt_of_le hk h.size) h1 hk1).trans (h.block k hk h1 h2), by
    rcases g.next with e | ⟨b, e, hb⟩
    · rcases h.next with e2 | ⟨b, e2, hb⟩
      · exact .inl (e.trans e2)
      · exact .inr ⟨b, e.trans e2, hb⟩
    · exact .inr ⟨b, e, Nat.le_trans h.size hb⟩⟩
theorem Step.of_below (W : Option Nat) (p : Option Addr) {w w' : World} (h : Below w.heap.size w w') : Step W p p w w' := ⟨h.os, h.tape, h.output, h.size, fun k hk _ _ => h.block k hk, .inl rfl⟩
theorem Step.of_only (W : Nat) (p : Option Addr) {w w' : World} (h : Only W w w') : Step (some W) p p w w' := ⟨h.os, h.tape, h.output, h.size, fun k hk h1 _ => h.block k hk (fun e => h1 (by rw [e])), .inl rfl⟩
theorem Step.some_ (W : Option Nat) {p p' : Option Addr} {w w' : World} (h : Step none p p' w w') : Step W p p' w w' := ⟨h.os, h.tape, h.output, h.size, fun k hk _ h2 => h.block k hk (by simp) h2, h.next⟩
theorem Step.below {W : Option Nat} {p p' : Option Addr} {w w' : World} {base : Nat} (h : Step W p p' w w') (hW : ∀ k, W = some k → base ≤ k) (hp : ∀ k, blk p = some k → base ≤ k) (hb : base ≤ w.heap.size) : Below base w w' :=
  ⟨h.os, h.tape, h.output, h.size, fun k hk => h.block k (by omega) (fun e => by have := hW k e; omega) (fun e => by have := hp k e; omega)⟩
/-- Where its own bytes lie. -/
theorem own_blk {w : World} {base : Nat} {p : Option Addr} {cap : Nat} {bs : List Nat} (h : Own w base p cap bs) {g : Nat} (hg : blk p = some g) : base ≤ g ∧ g < w.heap.size ∧ ∃ cur, w.heap[g]? = some (.cells cur 5 (0, 0)) := by
  rcases h.own.2 with ⟨hv, hn⟩ | ⟨g', cap', cur, hv, hb, hh, _⟩
  · have : p = none := by simpa using (Value.slice.inj hv).1
    subst this; simp [blk] at hg
  · have : p = some ⟨g', 0, none⟩ := (Value.slice.inj hv).1
    subst this
    have : g' = g := by simpa [blk] using hg
    subst this
    exact ⟨hb, (Array.getElem?_eq_some_iff.1 hh).1, cur, hh⟩
theorem own_mono {w : World} {base base' : Nat} {p : Option Addr} {cap : Nat} {bs : List Nat} (h : Own w base p cap bs) (hb : base' ≤ base) : Own w base' p cap bs := by
  refine ⟨h.own.1, ?_⟩
  rcases h.own.2 with h2 | ⟨g, cap', cur, hv, hg, r⟩
  · exact .inl h2
  · exact .inr ⟨g, cap', cur, hv, Nat.le_trans hb hg, r⟩
theorem own_low {w : World} {base : Nat} {p : Option Addr} {cap : Nat} {bs : List Nat} (h : Own w base p cap bs) : ∀ k, blk p = some k → base ≤ k := fun k hk => (own_blk h hk).1
/-- A struct lies elsewhere than bytes. -/
theorem row_not_own {w : World} {base W : Nat} {t : TypeId} {cs : List Value} {p : Option Addr} {cap : Nat} {bs : List Nat} (hr : Row w W t cs) (ht : t ≠ 5) (h : Own w base p cap bs) : blk p ≠ some W := fun e => by
  obtain ⟨_, _, cur, hh⟩ := own_blk h e
  have := Option.some.inj ((show w.heap[W]? = _ from hr).symm.trans hh)
  exact ht (Obj.cells.inj this).2.1
/-- Two slices in blocks of their own. -/
def Sep (p q : Option Addr) : Prop := ∀ k, blk p = some k → blk q ≠ some k
theorem Sep.symm {p q : Option Addr} (h : Sep p q) : Sep q p := fun k hq hp => h k hp hq
theorem Sep.next {W : Option Nat} {p p' q : Option Addr} {w w' : World} {base c : Nat} {ws : List Nat} (h : Sep p q) (hs : Step W p p' w w') (ho : Own w base q c ws) : Sep p' q := fun k hk hq => by
  rcases hs.next with e | ⟨g, e, hg⟩
  · exact h k (e ▸ hk) hq
  · have h1 := (own_blk ho hq).2.1
    have : g = k := Option.some.inj (e.symm.trans hk)
    omega
theorem own_step {W : Option Nat} {p p' q : Option Addr} {w w' : World} {base c : Nat} {ws : List Nat} (ho : Own w base q c ws) (hs : Step W p p' w w') (h : Sep p q) (hW : ∀ k, W = some k → blk q ≠ some k) : Own w' base q c ws := by
  refine ⟨ho.own.1, ?_⟩
  rcases ho.own.2 with h2 | ⟨g, cap', cur, hv, hg, hh, r⟩
  · exact .inl h2
  · have hq : blk q = some g := by rw [(Value.slice.inj hv).1]; rfl
    exact .inr ⟨g, cap', cur, hv, hg, by rw [hs.block g (Array.getElem?_eq_some_iff.1 hh).1 (fun e => hW g e hq) (fun e => h g e hq)]; exact hh, r⟩
section
variable {ops : Array Oper} {rest : List Oper} {o : Oper} {a : Act} {w : World} {Q : Exit → Act → World → Prop}
/-- 'append(s, x...)' of bytes onto a slice of the call's own; what else has changed. -/
theorem arm_append2 (hgd : o.guard = none) (s x : Operand) (ho : o.op = .call { callee := .builtin .append, args := #[s, x], argTypes := #[30, 30] }) (base : Nat) (p : Option Addr) (n cap : Nat) (bs : List Nat) (hn : n = bs.length)
    (hs : a.eval s = .slice p n cap) (hown : Own w base p cap bs) (q : Option Addr) (m c : Nat) (ys : List Nat) (hx : a.eval x = .slice q m c) (hm : m = ys.length) (hq : q = none → m = 0 ∧ c = 0)
    (hy : ys ≠ [] → ∃ g go, q = some ⟨g, go, none⟩ ∧ w.rangeAt g go (u8s ys)) (hz : bs.length + ys.length ≤ 1000000000) (hb : base ≤ w.heap.size)
    (h : ∀ p' cap' w', Own w' base p' cap' (bs ++ ys) → Step none p p' w w' → wpList Tryd.prog ops Q rest (a.put o.dst (.slice p' (n + m) cap')) w') : wpList Tryd.prog ops Q (o :: rest) a w := by
  subst hm hn
  rw [← List.length_append] at h
  obtain ⟨i0, hi, hz0, hz1, hz2⟩ := info_parts info5
  cases q with
  | none =>
    obtain ⟨h0, rfl⟩ := hq rfl
    have hnil : ys = [] := List.eq_nil_of_length_eq_zero h0
    subst hnil
    refine wpList_append_own_none hgd s x 30 ho base 5 i0 1 (by kernel_rfl) hi _ _ _ hs hown.own hx ?_
    have := h p cap w (by rw [List.append_nil]; exact hown) (Step.refl _ _ _)
    rw [List.append_nil] at this
    exact this
  | some ad =>
    have hnews : ∀ j u, (u8s ys)[j]? = some u → w.cell? (ad.add j) = some u := by
      intro j u hj
      have hne : ys ≠ [] := by intro e; subst e; simp [u8s] at hj
      obtain ⟨g, go, e, hr⟩ := hy hne
      have e' : ad = ⟨g, go, none⟩ := Option.some.inj e
      rw [e', Addr.add_mid]
      exact hr j u hj
    refine wpList_append_own_at w hgd s x 30 ho base 5 i0 (.int .u8 0) 1 1 (by kernel_rfl) hi hz0 hz1 hz2 rfl (by decide) _ _ _ hs hown.own ad ys.length c (u8s ys) hx (by rw [u8s_length, Nat.mul_one]) hnews (u8s_one _) (by unfold maxLen; omega) (by omega) hb ?_
    intro v' w' hown' hgrow _ hat
    rw [← u8s_append, ← List.length_append] at hown'
    obtain ⟨p', cap', hv, hO⟩ := Own.of_slice hown'
    have e1 : ∀ (p : Option Addr) (n c : Nat), (Value.slice p n c).ownBlock = blk p := fun p n c => by cases p <;> rfl
    rw [hv, e1, e1] at hat
    rw [e1] at hgrow
    rw [hv]
    refine h p' cap' w' hO ⟨hgrow.os, hgrow.tape, hgrow.output, hgrow.size, fun k hk _ h2 => hgrow.block k hk (fun e => h2 e.symm), ?_⟩
    rcases hat with e | e
    · exact .inl e
    · exact .inr ⟨_, e, Nat.le_refl _⟩
end
/-- A writer that has written these bytes. -/
structure Wr (w : World) (base W : Nat) (p : Option Addr) (cap : Nat) (bs : List Nat) : Prop where
  row : Row w W 111 [.slice p bs.length cap]
  own : Own w base p cap bs
  low : base ≤ W
theorem Wr.lt {w : World} {base W : Nat} {p : Option Addr} {cap : Nat} {bs : List Nat} (h : Wr w base W p cap bs) : W < w.heap.size := h.row.lt
theorem Wr.apart {w : World} {base W : Nat} {p : Option Addr} {cap : Nat} {bs : List Nat} (h : Wr w base W p cap bs) : blk p ≠ some W := row_not_own h.row (by decide) h.own
theorem Wr.old {w w' : World} {base W : Nat} {p : Option Addr} {cap : Nat} {bs : List Nat} (h : Wr w base W p cap bs) (hb : Below w.heap.size w w') : Wr w' base W p cap bs := ⟨h.row.old hb, h.own.below hb, h.low⟩
/-- Another writer is left as it was. -/
theorem Wr.other {w w' : World} {base W W2 : Nat} {p p' q : Option Addr} {cap c : Nat} {bs ws : List Nat} (h2 : Wr w base W2 q c ws) (h : Wr w base W p cap bs) (hs : Step (some W) p p' w w') (hne : W2 ≠ W) (hsep : Sep p q) : Wr w' base W2 q c ws :=
  ⟨h2.row.of_block (hs.block W2 h2.lt (fun e => hne (Option.some.inj e).symm) (row_not_own h2.row (by decide) h.own)), own_step h2.own hs hsep (fun k hk => by rw [← Option.some.inj hk]; exact row_not_own h.row (by decide) h2.own), h2.low⟩
theorem Wr.below {w w' : World} {base W : Nat} {p p' : Option Addr} {cap : Nat} {bs : List Nat} (h : Wr w base W p cap bs) (hs : Step (some W) p p' w w') (hb : base ≤ w.heap.size) : Below base w w' :=
  hs.below (fun k hk => by rw [← Option.some.inj hk]; exact h.low) (own_low h.own) hb
/-- What writing leaves. -/
structure WrPost (w : World) (base W : Nat) (p : Option Addr) (v : Value) (bs : List Nat) (e : Ending) (w' : World) : Prop where
  ex : e = .returned v ∧ ∃ p' cap', Wr w' base W p' cap' bs ∧ Step (some W) p p' w w'
theorem zero_wr : Mem.Zero Tryd.prog 111 [.slice none 0 0] := by unfold Mem.Zero; kernel_rfl
theorem wr_new {w : World} {base W : Nat} (hr : Row w W 111 [.slice none 0 0]) (hb : base ≤ W) : Wr w base W none 0 [] := ⟨hr, own_nil w base, hb⟩
/-- One more store of the struct behind the growth of its bytes. -/
theorem wr_stored {w w1 w2 : World} {base W : Nat} {p p' : Option Addr} {cap' : Nat} {bs' : List Nat} {v : Value} (hr : Row w W 111 [v]) (hp : blk p ≠ some W) (hs : Step none p p' w w1) (ho : Own w1 base p' cap' bs') (hl : base ≤ W)
    (hr2 : Row w2 W 111 [.slice p' bs'.length cap']) (ho2 : Only W w1 w2) : Wr w2 base W p' cap' bs' ∧ Step (some W) p p' w w2 := by
  have hr1 : Row w1 W 111 [v] := hr.of_block (hs.block W hr.lt (by simp) hp)
  refine ⟨⟨hr2, own_step ho (Step.of_only W none ho2) (fun k hk => by simp [blk] at hk) (fun k hk => by rw [← Option.some.inj hk]; exact row_not_own hr1 (by decide) ho), hl⟩, (hs.some_ _).trans (Step.of_only W p' ho2)⟩

set_option maxRecDepth 100000 in
theorem wByte_any (n : Nat) (base W : Nat) (p : Option Addr) (cap : Nat) (bs : List Nat) (w : World) (h : Wr w base W p cap bs) (hb : base ≤ w.heap.size) (hl : bs.length ≤ 1000000) :
    Calls Tryd.prog 74 #[.pointer (some ⟨W, 0, none⟩), .int .u8 (n : Int)] w (WrPost w base W p (.tuple #[]) (bs ++ [n])) := by
  have H := Lib.hid h
  have hc : w.cell? ⟨W, 0, none⟩ = some (.slice p bs.length cap) := h.row.cell rfl
  clear h
  go_enter Tryd.func74, Tryd.ntmps74
  go_wp2_with (first
    | ((with_reducible refine at_slot 10 ?_); (refine arm_buildSlice (o := ⟨some 10, _, _, _, _, _⟩) rfl 1 _ rfl [.int .u8 (n : Int)] #[(0, .int .u8 (n : Int))] (by simp [Act.eval]) (bs1 _) ?_); intro b1 w1 hb1 hR1 hN1)
    | ((with_reducible refine at_slot 11 ?_); (refine arm_append2 (o := ⟨some 11, _, _, _, _, _⟩) rfl _ _ rfl base p bs.length cap bs rfl rfl (H.out.own.below hN1.below) (some ⟨b1, 0, none⟩) 1 1 [n] rfl rfl (fun h => by cases h) (fun _ => ⟨b1, 0, rfl, hR1.range 0 _ (fun j v hj => by rw [Nat.zero_add]; exact hj)⟩) (by simp; omega) (by have := hN1.below.size; omega) ?_); intro p2 cap2 w2 hO2 hS2; have hr2 := (H.out.row.old hN1.below).of_block (hS2.block W (Nat.lt_of_lt_of_le H.out.lt hN1.below.size) (by simp) H.out.apart))
    | ((with_reducible refine arm_storeV (o := ⟨none, _, _, _, _, _⟩) rfl _ _ _ rfl W 0 rfl _ rfl rfl (by kernel_rfl) _ _ hr2 (by rw [List.length_cons]; omega) ?_); intro w3 hR3 hO3 hZ3))
  go_end0
  have hst := wr_stored (H.out.row.old hN1.below) H.out.apart hS2 hO2 H.out.low (by rw [List.length_append]; exact hR3) hO3
  exact ⟨rfl, p2, cap2, hst.1, (Step.of_below (some W) p hN1.below).trans hst.2⟩
end Go.Proofs.YtaihhbiocolhcaaDoor.Wi

/-
  The contracts of wire's Writer (number, Num, Long, Hash, Text, Bytes) and of bytes.Clone, over this seat's translation.
-/
namespace Go.Proofs.YtaihhbiocolhcaaDoor.Wi
open Go.ChangeShapes Go.WideShapes Go.ChangeAt Go.RowKit Go.Proofs.YtaihhbiocolhcaaDoor.Mem Go.Proofs.YtaihhbiocolhcaaDoor.Bt Go.Proofs.YtaihhbiocolhcaaDoor.Tg
set_option linter.unusedVariables false

/-- A writer's struct holds no byte. -/
theorem row_no_byte {w : World} {W o : Nat} {p : Option Addr} {n c : Nat} {t : TypeId} {v : Int} (hr : Row w W t [.slice p n c]) (h : w.cell? ⟨W, o, none⟩ = some (.int .u8 v)) : False := by
  simp only [World.cell?, show w.heap[W]? = _ from hr] at h
  match o, h with
  | 0, h => simp at h
  | n + 1, h => simp at h
/-- What holds in number's loop. -/
structure NuRel (w : World) (base W : Nat) (p : Option Addr) (bs : List Nat) (n s : Nat) (i : Value) (wr : World) : Prop where
  ex : ∃ k : Nat, k ≤ s ∧ i = .int .i64 k ∧ ∃ p' cap', Wr wr base W p' cap' (bs ++ (put n s).take k) ∧ Step (some W) p p' w wr
set_option maxHeartbeats 1000000 in
set_option maxRecDepth 100000 in
theorem wNumber_any (n s : Nat) (base W : Nat) (p : Option Addr) (cap : Nat) (bs : List Nat) (w : World) (h : Wr w base W p cap bs) (hb : base ≤ w.heap.size) (hl : bs.length ≤ 900000) (hn : n < 18446744073709551616) (hs : s ≤ 8) :
    Calls Tryd.prog 75 #[.pointer (some ⟨W, 0, none⟩), .int .u64 (n : Int), .int .i64 (s : Int)] w (WrPost w base W p (.tuple #[]) (bs ++ put n s)) := by
  have h0 : NuRel w base W p bs n s (.int .i64 0) w := ⟨0, by omega, rfl, p, cap, by rw [List.take_zero, List.append_nil]; exact h, Step.refl _ _ _⟩
  clear h
  go_enter Tryd.func75, Tryd.ntmps75
  go_wp2_with fail
  go_loopw [8] (fun i wr => NuRel w base W p bs n s i wr) (fun i _ => s - (intOf i).toNat)
  case atStart => exact h0
  case round =>
    clear h0
    obtain ⟨k, hk, rfl, q, c, hW, hS⟩ := hrel
    by_cases hlt : k < s
    · have ik : (k : Int) < (s : Int) := by omega
      have HW := Lib.hid hW; have HS := Lib.hid hS; clear hW hS
      have HV : Hid ((n : Int) / 2 ^ (8 * (s - 1 - k)) % 256 = ((n / 256 ^ (s - 1 - k) % 256 : Nat) : Int)) := Lib.hid (by
        rw [show (256 : Nat) ^ (s - 1 - k) = 2 ^ (8 * (s - 1 - k)) by rw [Nat.pow_mul]]
        simp)
      go_wp2_with fail
      rw [HV.out]
      refine (wByte_any _ base W q c _ wr HW.out (Nat.le_trans hb HS.out.size) (by rw [List.length_append, List.length_take]; omega)).mono ?_
      rintro e w2 ⟨rfl, q2, c2, hW2, hS2⟩
      go_wp2_with fail
      go_roundw
      case rel => exact ⟨k + 1, by omega, by go_num, q2, c2, by rw [put_take s n k hlt, ← List.append_assoc]; exact hW2, HS.out.trans hS2⟩
      case measure => simp [intOf]; omega
    · obtain rfl : k = s := by omega
      rw [List.take_of_length_le (by rw [put_length]; omega)] at hW
      go_wp2_with fail
      go_end0
      exact ⟨rfl, q, c, hW, hS⟩

set_option maxRecDepth 100000 in
theorem wNum_any (n : Nat) (base W : Nat) (p : Option Addr) (cap : Nat) (bs : List Nat) (w : World) (h : Wr w base W p cap bs) (hb : base ≤ w.heap.size) (hl : bs.length ≤ 900000) (hn : n < 4294967296) :
    Calls Tryd.prog 61 #[.pointer (some ⟨W, 0, none⟩), .int .u32 (n : Int)] w (WrPost w base W p (.tuple #[]) (bs ++ put n 4)) := by
  have H := Lib.hid h; clear h
  go_enter Tryd.func61, Tryd.ntmps61
  go_wp2_with fail
  refine (wNumber_any n 4 base W p cap bs w H.out hb hl (by omega) (by omega)).mono ?_
  rintro e w2 ⟨rfl, q2, c2, hW2, hS2⟩
  go_wp2_with fail
  go_end0
  exact ⟨rfl, q2, c2, hW2, hS2⟩
set_option maxRecDepth 100000 in
theorem wLong_any (n : Nat) (base W : Nat) (p : Option Addr) (cap : Nat) (bs : List Nat) (w : World) (h : Wr w base W p cap bs) (hb : base ≤ w.heap.size) (hl : bs.length ≤ 900000) (hn : n < 18446744073709551616) :
    Calls Tryd.prog 60 #[.pointer (some ⟨W, 0, none⟩), .int .u64 (n : Int)] w (WrPost w base W p (.tuple #[]) (bs ++ put n 8)) := by
  have H := Lib.hid h; clear h
  go_enter Tryd.func60, Tryd.ntmps60
  go_wp2_with fail
  refine (wNumber_any n 8 base W p cap bs w H.out hb hl hn (by omega)).mono ?_
  rintro e w2 ⟨rfl, q2, c2, hW2, hS2⟩
  go_wp2_with fail
  go_end0
  exact ⟨rfl, q2, c2, hW2, hS2⟩

set_option maxRecDepth 100000 in
theorem wText_any (ys : List Nat) (y : Option Addr) (yc : Nat) (base W : Nat) (p : Option Addr) (cap : Nat) (bs : List Nat) (w : World) (h : Wr w base W p cap bs) (hb : base ≤ w.heap.size) (hl : bs.length ≤ 900000)
    (hy : Rd w y ys) (hyn : y = none → ys.length = 0 ∧ yc = 0) (hyb : ys ≠ [] → Sep p y) (hm : ys.length ≤ maxLen) :
    Calls Tryd.prog 59 #[.pointer (some ⟨W, 0, none⟩), .slice y ys.length yc] w (WrPost w base W p (.bool (decide (ys.length ≤ 255))) (bs ++ txt ys)) := by
  have H := Lib.hid h; have HY := Lib.hid hy; have HYN := Lib.hid hyn; have HYB := Lib.hid hyb
  clear h hy hyn hyb
  unfold maxLen at hm
  by_cases hs : ys.length ≤ 255
  · have hd : decide ((255 : Int) < (ys.length : Int)) = false := decide_eq_false (by omega)
    rw [decide_eq_true hs, show txt ys = ys.length :: ys from if_pos hs]
    have HM : Hid ((ys.length : Int) % 256 = ((ys.length : Nat) : Int)) := Lib.hid (by omega)
    go_enter Tryd.func59, Tryd.ntmps59
    go_wp2_with fail
    try rw [HM.out]
    refine (wByte_any ys.length base W p cap bs w H.out hb (by omega)).mono ?_
    rintro e w1 ⟨rfl, q, c, hW1, hS1⟩
    have hc : w1.cell? ⟨W, 0, none⟩ = some (.slice q (bs.length + 1) c) := hW1.row.cell (by rw [List.length_append]; rfl)
    have HW := Lib.hid hW1
    have hr1 : Rd w1 y ys := ⟨fun hne => by
      obtain ⟨g, o, e, hr⟩ := HY.out.at_ hne
      have hne8 : u8s ys ≠ [] := by intro h; apply hne; simpa [u8s] using h
      have hg : g < w.heap.size := range_lt hr hne8
      refine ⟨g, o, e, range_block hr (hS1.block g hg (fun eW => ?_) (fun eP => HYB.out hne g eP (by rw [e]; rfl)))⟩
      obtain rfl : W = g := Option.some.inj eW
      obtain ⟨v, hv⟩ : ∃ v, ys[0]? = some v := ⟨_, List.getElem?_eq_getElem (List.length_pos_iff.2 hne)⟩
      exact row_no_byte H.out.row (hr 0 (.int .u8 (v : Int)) (by simp [u8s, hv]))⟩
    have HR := Lib.hid hr1
    clear hW1 hr1
    have hb1 : base ≤ w1.heap.size := Nat.le_trans hb hS1.size
    go_wp2_with (first
      | ((with_reducible refine at_slot 19 ?_); (refine arm_append2 (o := ⟨some 19, _, _, _, _, _⟩) rfl _ _ rfl base q (bs.length + 1) c (bs ++ [ys.length]) (by rw [List.length_append, List.length_singleton]) rfl HW.out.own y ys.length yc ys rfl rfl HYN.out HR.out.at_ (by rw [List.length_append, List.length_singleton]; omega) hb1 ?_); intro p2 cap2 w2 hO2 hS2; have hr2 := HW.out.row.of_block (hS2.block W HW.out.lt (by simp) HW.out.apart))
      | ((with_reducible refine arm_storeV (o := ⟨none, _, _, _, _, _⟩) rfl _ _ _ rfl W 0 rfl _ rfl rfl (by kernel_rfl) _ _ hr2 (by rw [List.length_cons]; omega) ?_); intro w3 hR3 hO3 hZ3))
    go_ret
    have hst := wr_stored HW.out.row HW.out.apart hS2 hO2 HW.out.low (by rw [List.length_append, List.length_append, List.length_singleton]; exact hR3) hO3
    exact ⟨rfl, p2, cap2, by have := hst.1; rw [List.append_assoc] at this; exact this, hS1.trans hst.2⟩
  · have hd : decide ((255 : Int) < (ys.length : Int)) = true := decide_eq_true (by omega)
    rw [decide_eq_false hs, show txt ys = [] from if_neg hs, List.append_nil]
    go_enter Tryd.func59, Tryd.ntmps59
    go_wp2_with fail
    go_ret
    exact ⟨rfl, p, cap, H.out, Step.refl _ _ _⟩
end Go.Proofs.YtaihhbiocolhcaaDoor.Wi

/-
  The contracts of bytes.Clone and of wire's Writer.Bytes, Writer.Hash, over this seat's translation.
-/
namespace Go.Proofs.YtaihhbiocolhcaaDoor.Wi
open Go.ChangeShapes Go.WideShapes Go.ChangeAt Go.RowKit Go.Proofs.YtaihhbiocolhcaaDoor.Mem Go.Proofs.YtaihhbiocolhcaaDoor.Bt Go.Proofs.YtaihhbiocolhcaaDoor.Tg
set_option linter.unusedVariables false

/-- A copy in memory of its own. -/
structure ClonePost (w : World) (bs : List Nat) (e : Ending) (w' : World) : Prop where
  ex : ∃ p cap, e = .returned (.slice p bs.length cap) ∧ Own w' w.heap.size p cap bs
  bel : Below w.heap.size w w'
set_option maxRecDepth 100000 in
theorem clone_any (bs : List Nat) (p : Option Addr) (cap : Nat) (w : World) (h : Rd w p bs) (hn : p = none → bs.length = 0 ∧ cap = 0) (hl : bs.length ≤ 1000000) :
    Calls Tryd.prog 76 #[.slice p bs.length cap] w (ClonePost w bs) := by
  have H := Lib.hid h; clear h
  cases p with
  | none =>
    obtain ⟨h0, rfl⟩ := hn rfl
    obtain rfl : bs = [] := List.eq_nil_of_length_eq_zero h0
    rw [show ([] : List Nat).length = 0 from rfl]
    have hE : ∀ w : World, (binOp .eql 30 (.slice none 0 0) (.slice none 0 0)).run Tryd.prog w = .ok (.bool true) w := fun w => by kernel_rfl
    go_enter Tryd.func76, Tryd.ntmps76
    go_wp2_with fail
    go_ret
    exact ⟨⟨none, 0, rfl, own_nil _ _⟩, Below.refl _ _⟩
  | some ad =>
    clear hn
    have hE : ∀ w : World, (binOp .eql 30 (.slice (some ad) bs.length cap) (.slice none 0 0)).run Tryd.prog w = .ok (.bool false) w := fun w => by kernel_rfl
    go_enter Tryd.func76, Tryd.ntmps76
    go_wp2_with (first
      | ((with_reducible refine at_slot 5 ?_); (refine arm_buildSlice (o := ⟨some 5, _, _, _, _, _⟩) rfl 0 _ rfl [] #[] (by simp) bs0 ?_); intro b1 w1 hb1 hR1 hN1)
      | ((with_reducible refine at_slot 7 ?_); (refine arm_append2 (o := ⟨some 7, _, _, _, _, _⟩) rfl _ _ rfl w.heap.size (some ⟨b1, 0, none⟩) 0 0 [] rfl rfl (own_new hR1 (by have := hb1.out; omega)) (some ad) bs.length cap bs rfl rfl (fun h => by cases h) (H.out.below hN1.below).at_ (by rw [List.length_nil]; omega) (by have := hN1.below.size; omega) ?_); intro p2 cap2 w2 hO2 hS2))
    go_ret
    refine ⟨⟨p2, cap2, rfl, hO2⟩, hN1.below.trans (hS2.below (fun k hk => by cases hk) (fun k hk => ?_) hN1.below.size)⟩
    have e1 := hb1.out
    have e2 : b1 = k := Option.some.inj hk
    omega
theorem own_none {w : World} {base : Nat} {p : Option Addr} {cap : Nat} {bs : List Nat} (h : Own w base p cap bs) : p = none → bs.length = 0 ∧ cap = 0 := fun e => by
  subst e
  rcases h.own.2 with ⟨hv, hn⟩ | ⟨g, cap', cur, hv, _⟩
  · exact ⟨hn, (Value.slice.inj hv).2.2⟩
  · cases (Value.slice.inj hv).1
set_option maxRecDepth 100000 in
theorem wBytes_any (base W : Nat) (p : Option Addr) (cap : Nat) (bs : List Nat) (w : World) (h : Wr w base W p cap bs) (hl : bs.length ≤ 1000000) :
    Calls Tryd.prog 62 #[.pointer (some ⟨W, 0, none⟩)] w (ClonePost w bs) := by
  have hc : w.cell? ⟨W, 0, none⟩ = some (.slice p bs.length cap) := h.row.cell rfl
  have H := Lib.hid h; clear h
  go_enter Tryd.func62, Tryd.ntmps62
  go_wp2_with fail
  refine (clone_any bs p cap w H.out.own.rd (own_none H.out.own) hl).mono ?_
  rintro e w1 ⟨⟨q, c, rfl, hO⟩, hB⟩
  go_wp2_with fail
  go_ret
  exact ⟨⟨q, c, rfl, hO⟩, hB⟩
section
variable {o : Oper} {a : Act} {w : World}
/-- 'append(s, x...)' onto a slice of the call's own, run. -/
theorem run_op_append2 (s x : Operand) (ho : o.op = .call { callee := .builtin .append, args := #[s, x], argTypes := #[30, 30] }) (base : Nat) (p : Option Addr) (n cap : Nat) (bs : List Nat) (hn : n = bs.length)
    (hs : a.eval s = .slice p n cap) (hown : Own w base p cap bs) (q : Option Addr) (m c : Nat) (ys : List Nat) (hx : a.eval x = .slice q m c) (hm : m = ys.length) (hq : q = none → m = 0 ∧ c = 0)
    (hy : ys ≠ [] → ∃ g go, q = some ⟨g, go, none⟩ ∧ w.rangeAt g go (u8s ys)) (hz : bs.length + ys.length ≤ 1000000000) (hb : base ≤ w.heap.size) :
    ∃ p' cap' w', (execOp a.eval o).run Tryd.prog w = .ok (.value (.slice p' (n + m) cap')) w' ∧ Own w' base p' cap' (bs ++ ys) ∧ Step none p p' w w' := by
  subst hm hn
  rw [← List.length_append]
  obtain ⟨i0, hi, hz0, hz1, hz2⟩ := info_parts info5
  cases q with
  | none =>
    obtain ⟨h0, rfl⟩ := hq rfl
    have hnil : ys = [] := List.eq_nil_of_length_eq_zero h0
    subst hnil
    have hrun := run_append_owned_none (P := Tryd.prog) (w := w) base 30 o.type 5 i0 1 (by kernel_rfl) hi _ _ _ hown.own
    refine ⟨p, cap, w, ?_, by rw [List.append_nil]; exact hown, Step.refl _ _ _⟩
    rw [List.append_nil]
    simp [execOp, ho, resolve, invoke, builtin, hs, hx, hrun, Result.andThen]
  | some ad =>
    have hnews : ∀ j u, (u8s ys)[j]? = some u → w.cell? (ad.add j) = some u := by
      intro j u hj
      have hne : ys ≠ [] := by intro e; subst e; simp [u8s] at hj
      obtain ⟨g, go, e, hr⟩ := hy hne
      have e' : ad = ⟨g, go, none⟩ := Option.some.inj e
      rw [e', Addr.add_mid]
      exact hr j u hj
    obtain ⟨v', w', hr, hown', hgrow, _, hat⟩ := run_append_own_at (P := Tryd.prog) w base 30 o.type 5 i0 (.int .u8 0) 1 1 (by kernel_rfl) hi hz0 hz1 hz2 rfl (by decide) _ _ _ hown.own ad ys.length c (u8s ys) (by rw [u8s_length, Nat.mul_one]) hnews (u8s_one _) (by unfold maxLen; omega) (by omega) hb
    rw [← u8s_append, ← List.length_append] at hown'
    obtain ⟨p', cap', hv, hO⟩ := Own.of_slice hown'
    have e1 : ∀ (p : Option Addr) (n c : Nat), (Value.slice p n c).ownBlock = blk p := fun p n c => by cases p <;> rfl
    rw [hv, e1, e1] at hat
    rw [e1] at hgrow
    rw [hv] at hr
    refine ⟨p', cap', w', ?_, hO, ⟨hgrow.os, hgrow.tape, hgrow.output, hgrow.size, fun k hk _ h2 => hgrow.block k hk (fun e => h2 e.symm), ?_⟩⟩
    · unfold execOp
      simp only [ho, resolve, invoke, builtin, Sem.run_bind, Sem.run_pure, Result.andThen_ok, List.map_toArray, List.map_cons, List.map_nil, hs, hx, hr]
    · rcases hat with e | e
      · exact .inl e
      · exact .inr ⟨_, e, Nat.le_refl _⟩
end
section
variable {ops : Array Oper} {Q : Exit → Act → World → Prop} {o : Oper} {a : Act} {w : World}
/-- The same, in a region that draws its order. -/
theorem o_append {i : Nat} {K : Act → World → Prop} (hi : ops[i]? = some o) (d : Tmp) (hd : o.dst = some d) (hg : Region.wanted o (yielded ops a.tmps) = true) (s x : Operand) (ho : o.op = .call { callee := .builtin .append, args := #[s, x], argTypes := #[30, 30] }) (base : Nat) (p : Option Addr) (n cap : Nat) (bs : List Nat) (hn : n = bs.length)
    (hs : a.eval s = .slice p n cap) (hown : Own w base p cap bs) (q : Option Addr) (m c : Nat) (ys : List Nat) (hx : a.eval x = .slice q m c) (hm : m = ys.length) (hq : q = none → m = 0 ∧ c = 0)
    (hy : ys ≠ [] → ∃ g go, q = some ⟨g, go, none⟩ ∧ w.rangeAt g go (u8s ys)) (hz : bs.length + ys.length ≤ 1000000000) (hb : base ≤ w.heap.size)
    (h : ∀ p' cap' w', Own w' base p' cap' (bs ++ ys) → Step none p p' w w' → K (a.put (some d) (.slice p' (n + m) cap')) w') : wpOp Tryd.prog ops Q i K a w := by
  obtain ⟨p', cap', w', hr, h1, h2⟩ := run_op_append2 s x ho base p n cap bs hn hs hown q m c ys hx hm hq hy hz hb
  exact o_value _ hi d hd hg hr (h p' cap' w' h1 h2)
end
theorem fieldW (b : Nat) (w : World) : (Instr.fieldAt 111 (.pointer (some ⟨b, 0, none⟩)) 0).run Tryd.prog w = .ok (.pointer (some ⟨b, 0, none⟩)) w := by kernel_rfl
end Go.Proofs.YtaihhbiocolhcaaDoor.Wi

/-
  A reader's memory: its struct, and the bytes that are left; the contracts of wire's Reader (fail, take, number, Byte, Num, Long, Left, End), over this seat's translation.
-/
namespace Go.Proofs.YtaihhbiocolhcaaDoor.Wi
open Go.ChangeShapes Go.WideShapes Go.ChangeAt Go.RowKit Go.Proofs.YtaihhbiocolhcaaDoor.Mem Go.Proofs.YtaihhbiocolhcaaDoor.Bt Go.Proofs.YtaihhbiocolhcaaDoor.Tg
set_option linter.unusedVariables false

theorem blk_on (p : Option Addr) (k cap : Nat) : blk (onP p k cap) = blk p := by
  unfold onP
  split
  · rfl
  · cases p with
    | none => rfl
    | some ad => simp only [blk, Option.map_some, Addr.add]; split <;> rfl
/-- A part of what can be read can be read. -/
theorem Rd_take {w : World} {p : Option Addr} {bs : List Nat} (h : Rd w p bs) (k : Nat) : Rd w p (bs.take k) := ⟨fun hne => by
  have hb : bs ≠ [] := by intro e; rw [e] at hne; simp at hne
  obtain ⟨g, o, e, hr⟩ := h.at_ hb
  refine ⟨g, o, e, fun j v hj => hr j v ?_⟩
  have hj2 := (List.getElem?_eq_some_iff.1 hj).1
  rw [u8s_length, List.length_take] at hj2
  unfold u8s at hj ⊢
  rw [List.getElem?_map, List.getElem?_take, if_pos (by omega)] at hj
  rw [List.getElem?_map]; exact hj⟩
theorem Rd_drop {w : World} {p : Option Addr} {bs : List Nat} {cap : Nat} (h : Rd w p bs) (k : Nat) (hc : bs.length ≤ cap) : Rd w (onP p k cap) (bs.drop k) := ⟨fun hne => by
  have hk : k < bs.length := by
    rcases Nat.lt_or_ge k bs.length with h | h
    · exact h
    · exact absurd (List.drop_eq_nil_of_le h) hne
  have hb : bs ≠ [] := by intro e; rw [e] at hk; simp at hk
  obtain ⟨g, o, e, hr⟩ := h.at_ hb
  refine ⟨g, o + k, by rw [e]; exact onP_some g o k cap (by omega), fun j v hj => ?_⟩
  rw [Nat.add_assoc]
  refine hr (k + j) v ?_
  unfold u8s at hj ⊢
  rw [List.getElem?_map, List.getElem?_drop] at hj
  rw [List.getElem?_map]; exact hj⟩
/-- A block without bytes is none that bytes lie in. -/
theorem Rd_only {w w' : World} {R : Nat} {t : TypeId} {cs : List Value} {p : Option Addr} {bs : List Nat} (h : Rd w p bs) (hr : Row w R t cs) (hno : ∀ (i : Nat) (n : Int), cs[i]? ≠ some (.int .u8 n)) (ho : Only R w w') : Rd w' p bs := ⟨fun hne => by
  obtain ⟨g, o, e, hg⟩ := h.at_ hne
  have hne8 : u8s bs ≠ [] := by intro h; apply hne; simpa [u8s] using h
  refine ⟨g, o, e, range_block hg (ho.block g (range_lt hg hne8) (fun eR => ?_))⟩
  subst eR
  obtain ⟨v, hv⟩ : ∃ v, bs[0]? = some v := ⟨_, List.getElem?_eq_getElem (List.length_pos_iff.2 hne)⟩
  have := hg 0 (.int .u8 (v : Int)) (by simp [u8s, hv])
  simp only [World.cell?, show w.heap[g]? = _ from hr] at this
  exact hno (o + 0) v (by simpa using this)⟩
def rcells (p : Option Addr) (cap : Nat) (s : RS) : List Value := [.slice p s.1.length cap, .int .i64 (s.2 : Int)]
theorem rcells_no (p : Option Addr) (cap : Nat) (s : RS) : ∀ (i : Nat) (n : Int), (rcells p cap s)[i]? ≠ some (.int .u8 n) := by
  intro i n
  match i with
  | 0 => simp [rcells]
  | 1 => simp [rcells]
  | i + 2 => simp [rcells]
theorem mem_lt_take {bs : List Nat} (h : AllLt 256 bs) (k : Nat) : AllLt 256 (bs.take k) := fun x hx => h x (List.mem_of_mem_take hx)
theorem takeR_lt {k : Nat} {s : RS} (h : AllLt 256 s.1) : AllLt 256 (takeR k s).1 := by
  unfold takeR; split
  · exact mem_lt_take h k
  · intro x hx; cases hx
theorem takeR_len (k : Nat) (s : RS) : (takeR k s).1.length ≤ k := by
  unfold takeR; split
  · simp; omega
  · simp
end Go.Proofs.YtaihhbiocolhcaaDoor.Wi

/-
  The contracts of wire's Reader (number, Byte, Num, Long, Left, End), over this seat's translation.
-/
namespace Go.Proofs.YtaihhbiocolhcaaDoor.Wi
open Go.ChangeShapes Go.WideShapes Go.ChangeAt Go.RowKit Go.Proofs.YtaihhbiocolhcaaDoor.Mem Go.Proofs.YtaihhbiocolhcaaDoor.Bt Go.Proofs.YtaihhbiocolhcaaDoor.Tg
set_option linter.unusedVariables false

theorem or_byte (x y : Nat) (hx : x < 256 ^ 7) (hy : y < 256) : bits BinOp.or IntKind.u64 ((x : Int) * 256) (y : Int) = ((x * 256 + y : Nat) : Int) := by
  have h := bits_or_u64_nat (x * 256) y (by omega) (by omega)
  rw [show ((x : Int) * 256) = ((x * 256 : Nat) : Int) by omega, h]
  congr 1
  rw [show x * 256 = 2 ^ 8 * x by omega]
  exact (Nat.two_pow_add_eq_or_of_lt (by omega) x).symm
/-- What holds in number's loop. -/
structure RnRel (w : World) (t : List Nat) (i v : Value) (wr : World) : Prop where
  ex : ∃ k : Nat, k ≤ t.length ∧ i = .int .i64 k ∧ v = .int .u64 ((numOf (t.take k) : Nat) : Int)
  same : w = wr
theorem numR_lt {k : Nat} {s : RS} (h : AllLt 256 s.1) : (numR k s).1 < 256 ^ k :=
  Nat.lt_of_lt_of_le (numOf_lt _ (takeR_lt h)) (Nat.pow_le_pow_right (by omega) (takeR_len k s))
end Go.Proofs.YtaihhbiocolhcaaDoor.Wi

/-
  The contracts of wire's Reader (Text, Hash), over this seat's translation.
-/
namespace Go.Proofs.YtaihhbiocolhcaaDoor.Wi
open Go.ChangeShapes Go.WideShapes Go.ChangeAt Go.RowKit Go.Proofs.YtaihhbiocolhcaaDoor.Mem Go.Proofs.YtaihhbiocolhcaaDoor.Bt Go.Proofs.YtaihhbiocolhcaaDoor.Tg
set_option linter.unusedVariables false

theorem takeR_left (k : Nat) (s : RS) : (takeR k s).2.1.length ≤ s.1.length := by
  unfold takeR; split
  · simp
  · simp
section
variable {P : Program} {o : Oper} {a : Act} {w : World}
/-- 'copy(dst, src)' into a row, run; src may be nil. -/
theorem run_op_copy (d s : Operand) (dT sT : TypeId) (ho : o.op = .call { callee := .builtin .copy, args := #[d, s], argTypes := #[dT, sT] }) (e : TypeId) (hu : P.underlying dT = some (.slice e)) (hse : (P.info? e).map (·.size) = some 1)
    (b off dLen dCap : Nat) (hd : a.eval d = .slice (some ⟨b, off, none⟩) dLen dCap) (q : Option Addr) (sLen sCap : Nat) (hs : a.eval s = .slice q sLen sCap) (vs : List Value) (hvm : vs.length = sLen) (hm : sLen ≤ dLen) (hv : vs ≠ [] → ∃ g go, q = some ⟨g, go, none⟩ ∧ w.rangeAt g go vs)
    (hq : q = none → sLen = 0) (u : TypeId) (cs : List Value) (hr : Row w b u cs) (hf : off + vs.length ≤ cs.length) (h1 : OneCells vs) :
    ∃ w', (execOp a.eval o).run P w = .ok (.value (.int .i64 (sLen : Int))) w' ∧ Row w' b u (lay cs off vs) ∧ Only b w w' := by
  subst hvm
  obtain ⟨dst, op, ty, pos, after, guard⟩ := o
  simp only at ho
  subst ho
  have hmin : Nat.min vs.length dLen = vs.length := Nat.min_eq_left hm
  cases q with
  | none =>
    have hnil : vs = [] := List.eq_nil_of_length_eq_zero (hq rfl)
    subst hnil
    refine ⟨w, ?_, by unfold lay; simpa using hr, Only.refl _ _⟩
    rw [BigFrame.execOp_builtin, BigFrame.builtin_copy]
    cases hi : P.info? e with
    | none => simp [hi] at hse
    | some ie =>
      simp only [List.map_toArray, List.map_cons, List.map_nil, hd, hs]
      simp [Builtin.copy_, run_underlying hu, Builtin.lenOf, Builtin.firstCells, sizeOf, typeInfo, hi, storeCells, goInt]
  | some ad =>
    have hv2 : ∀ j v, vs[j]? = some v → w.cell? (ad.add j) = some v := fun j v hj => by
      obtain ⟨g, go, e, hr⟩ := hv (by intro e; subst e; simp at hj)
      rw [Option.some.inj e, Addr.add_mid]
      exact hr j v hj
    have hc := run_copy_row P w dT sT ty e b off dLen dCap ad vs.length sCap cs.toArray u vs hu hse hr hmin.symm hv2 (by simpa using hf) h1
    refine ⟨_, ?_, row_setRow hr (lay cs off vs), Only.setRow _ _ _⟩
    rw [BigFrame.execOp_builtin, BigFrame.builtin_copy]
    simp only [List.map_toArray, List.map_cons, List.map_nil, hd, hs, Sem.run_bind, hc, Result.andThen_ok, Sem.run_pure, goInt, lay]
end
theorem z_hash : Mem.Zero Tryd.prog 23 (u8s (List.replicate 32 0)) := by unfold Mem.Zero; kernel_rfl
theorem sz_hash : Sized Tryd.prog 23 32 := ⟨.array 32 5, by kernel_rfl, rfl, by kernel_rfl⟩
theorem hashR_len (s : RS) : (hashR s).1.length = 32 := by
  unfold hashR
  by_cases h : 32 ≤ s.1.length
  · simp only [if_pos h, List.length_take]; omega
  · simp only [if_neg h, List.length_replicate]
theorem hashR_lay (s : RS) : lay (u8s (List.replicate 32 0)) 0 (u8s (takeR 32 s).1) = u8s (hashR s).1 := by
  unfold hashR takeR
  by_cases h : 32 ≤ s.1.length
  · simp only [if_pos h]
    exact lay_all _ _ (by rw [u8s_length, u8s_length, List.length_take, List.length_replicate]; omega)
  · simp only [if_neg h]
    unfold lay u8s
    simp
end Go.Proofs.YtaihhbiocolhcaaDoor.Wi
