import Derived.Test.YtnjmocobncncdaaDoorBytAll
import Derived.Test.YtnjmocobncncdaaDoorMemAll
import Derived.Maps.AppendAt
import Derived.PlainAid
import Derived.Test.YtnjmocobncncdaaDoorShaAll
/-
  What is written and read, over numbers and lists: bytes of a number, things and their bytes, a reader's state; what is written is read, what is cut goes wrong. No program.
-/
namespace Go.Proofs.YtnjmocobncncdaaDoor.Wi
set_option linter.unusedVariables false

/-- A number as so many bytes, the highest first. -/
def put : Nat → Nat → List Nat
  | _, 0 => []
  | n, k + 1 => put (n / 256) k ++ [n % 256]
theorem put_length : ∀ k n, (put n k).length = k
  | 0, _ => rfl
  | k + 1, n => by simp [put, put_length k]
theorem put_lt : ∀ k n, ∀ x ∈ put n k, x < 256
  | 0, _ => by simp [put]
  | k + 1, n => by
    intro x hx
    rcases List.mem_append.1 hx with h | h
    · exact put_lt k _ x h
    · simp at h; omega
theorem put_cons : ∀ k n, put n (k + 1) = (n / 256 ^ k % 256) :: put n k
  | 0, n => by simp [put]
  | k + 1, n => by
    have h := put_cons k (n / 256)
    rw [put, h, List.cons_append, show put (n / 256) k ++ [n % 256] = put n (k + 1) from rfl, Nat.div_div_eq_div_mul, Nat.pow_succ, Nat.mul_comm]
theorem put_drop : ∀ s n k, k ≤ s → (put n s).drop k = put n (s - k)
  | 0, n, k, h => by obtain rfl : k = 0 := by omega
                     rfl
  | s + 1, n, 0, h => rfl
  | s + 1, n, k + 1, h => by rw [put_cons, List.drop_succ_cons, put_drop s n k (by omega), show s + 1 - (k + 1) = s - k by omega]
theorem put_take (s n k : Nat) (h : k < s) : (put n s).take (k + 1) = (put n s).take k ++ [n / 256 ^ (s - 1 - k) % 256] := by
  have hl := put_length s n
  have hd := put_drop s n k (by omega)
  obtain ⟨j, hj⟩ : ∃ j, s - k = j + 1 := ⟨s - k - 1, by omega⟩
  rw [hj, put_cons] at hd
  have hg : (put n s)[k]? = some (n / 256 ^ j % 256) := by
    have := congrArg (fun l => l[0]?) hd
    simpa [List.getElem?_drop] using this
  rw [List.take_add_one, hg, show s - 1 - k = j by omega]
  rfl
/-- The number of some bytes. -/
def numOf (l : List Nat) : Nat := l.foldl (fun a b => a * 256 + b) 0
theorem numOf_snoc (l : List Nat) (b : Nat) : numOf (l ++ [b]) = numOf l * 256 + b := by simp [numOf]
theorem numOf_put : ∀ k n, numOf (put n k) = n % 256 ^ k
  | 0, n => by simp [put, numOf, Nat.mod_one]
  | k + 1, n => by
    rw [put, numOf_snoc, numOf_put k, Nat.pow_succ, Nat.mul_comm (256 ^ k) 256, Nat.mod_mul, Nat.mul_comm]
    omega
theorem take_snoc (l : List Nat) (k : Nat) (h : k < l.length) : l.take (k + 1) = l.take k ++ [l.getD k 0] := by
  rw [List.take_add_one, List.getElem?_eq_getElem h]
  simp [List.getD_eq_getElem?_getD, List.getElem?_eq_getElem h]

/-- A reader's state: the bytes that are left, and what went wrong. -/
abbrev RS := List Nat × Nat
def failed (e c : Nat) : Nat := if e = 0 then c else e
def takeR (k : Nat) (s : RS) : List Nat × RS := if k ≤ s.1.length then (s.1.take k, (s.1.drop k, s.2)) else ([], ([], failed s.2 3))
def numR (k : Nat) (s : RS) : Nat × RS := (numOf (takeR k s).1, (takeR k s).2)
def hashR (s : RS) : List Nat × RS := (if 32 ≤ s.1.length then s.1.take 32 else List.replicate 32 0, (takeR 32 s).2)
def endR (s : RS) : Nat := if s.2 ≠ 0 then s.2 else if s.1 = [] then 0 else 4
end Go.Proofs.YtnjmocobncncdaaDoor.Wi

/-
  Slices of bytes that grow beside others; a writer's memory: its struct, and the bytes that it holds. Over this seat's translation.
-/
namespace Go.Proofs.YtnjmocobncncdaaDoor.Wi
open Go.ChangeShapes Go.WideShapes Go.ChangeAt Go.RowKit Go.Proofs.YtnjmocobncncdaaDoor.Mem Go.Proofs.YtnjmocobncncdaaDoor.Bt Go.Proofs.YtnjmocobncncdaaDoor.Tg
set_option linter.unusedVariables false

/-- The block in which a slice lies. -/
def blk (p : Option Addr) : Option Nat := p.map (·.block)
/-- A slice at p has become one at p'; struct W may have changed, too; no other block that was there. -/
structure Step (W : Option Nat) (p p' : Option Addr) (w w' : World) : Prop where
  os : w'.os = w.os
  tape : w'.tape = w.tape
  output : w'.output = w.output
  size : w.heap.size ≤ w'.heap.size
  block : ∀ k, k < w.heap.size → W ≠ some k → blk p ≠ some k → w'.heap[k]? = w.heap[k]?
  next : blk p' = blk p ∨ ∃ g, blk p' = some g ∧ w.heap.size ≤ g
theorem Step.refl (W : Option Nat) (p : Option Addr) (w : World) : Step W p p w w := ⟨rfl, rfl, rfl, Nat.le_refl _, fun _ _ _ _ => rfl, .inl rfl⟩
theorem Step.trans {W : Option Nat} {p p1 p2 : Option Addr} {w w1 w2 : World} (h : Step W p p1 w w1) (g : Step W p1 p2 w1 w2) : Step W p p2 w w2 :=
  ⟨g.os.trans h.os, g.tape.trans h.tape, g.output.trans h.output, Nat.le_trans h.size g.size, fun k hk h1 h2 => by
    have hk1 : blk p1 ≠ some k := by
      rcases h.next with e | ⟨b, e, hb⟩
      · rw [e]; exact h2
      · rw [e]; intro e'; have := Option.some.inj e'; omega
    exact (g.block k (Nat.lt_of_lt_of_le hk h.size) h1 hk1).trans (h.block k hk h1 h2), by
    rcases g.next with e | ⟨b, e, hb⟩
    · rcases h.next with e2 | ⟨b, e2, hb⟩
      · exact .inl (e.trans e2)
      · exact .inr ⟨b, e.trans e2, hb⟩
    · exact .inr ⟨b, e, Nat.le_trans h.size hb⟩⟩
theorem Step.of_below (W : Option Nat) (p : Option Addr) {w w' : World} (h : Below w.heap.size w w') : Step W p p w w' := ⟨h.os, h.tape, h.output, h.size, fun k hk _ _ => h.block k hk, .inl rfl⟩
theorem Step.of_only (W : Nat) (p : Option Addr) {w w' : World} (h : Only W w w') : Step (some W) p p w w' := ⟨h.os, h.tape, h.output, h.size, fun k hk h1 _ => h.block k hk (fun e => h1 (by rw [e])), .inl rfl⟩
theorem Step.some_ (W : Option Nat) {p p' : Option Addr} {w w' : World} (h : Step none p p' w w') : Step W p p' w w' := ⟨h.os, h.tape, h.output, h.size, fun k hk _ h2 => h.block k hk (by simp) h2, h.next⟩
theorem Step.below {W : Option Nat} {p p' : Option Addr} {w w' : World} {base : Nat} (h : Step W p p' w w') (hW : ∀ k, W = some k → base ≤ k) (hp : ∀ k, blk p = some k → base ≤ k) (hb : base ≤ w.heap.size) : Below base w w' :=
  ⟨h.os, h.tape, h.output, h.size, fun k hk => h.block k (by omega) (fun e => by have := hW k e; omega) (fun e => by have := hp k e; omega)⟩
/-- Where its own bytes lie. -/
theorem own_blk {w : World} {base : Nat} {p : Option Addr} {cap : Nat} {bs : List Nat} (h : Own w base p cap bs) {g : Nat} (hg : blk p = some g) : base ≤ g ∧ g < w.heap.size ∧ ∃ cur, w.heap[g]? = some (.cells cur 5 (0, 0)) := by
  rcases h.own.2 with ⟨hv, hn⟩ | ⟨g', cap', cur, hv, hb, hh, _⟩
  · have : p = none := by simpa using (Value.slice.inj hv).1
    subst this; simp [blk] at hg
  · have : p = some ⟨g', 0, none⟩ := (Value.slice.inj hv).1
    subst this
    have : g' = g := by simpa [blk] using hg
    subst this
    exact ⟨hb, (Array.getElem?_eq_some_iff.1 hh).1, cur, hh⟩
theorem own_mono {w : World} {base base' : Nat} {p : Option Addr} {cap : Nat} {bs : List Nat} (h : Own w base p cap bs) (hb : base' ≤ base) : Own w base' p cap bs := by
  refine ⟨h.own.1, ?_⟩
  rcases h.own.2 with h2 | ⟨g, cap', cur, hv, hg, r⟩
  · exact .inl h2
  · exact .inr ⟨g, cap', cur, hv, Nat.le_trans hb hg, r⟩
theorem own_low {w : World} {base : Nat} {p : Option Addr} {cap : Nat} {bs : List Nat} (h : Own w base p cap bs) : ∀ k, blk p = some k → base ≤ k := fun k hk => (own_blk h hk).1
/-- A struct lies elsewhere than bytes. -/
theorem row_not_own {w : World} {base W : Nat} {t : TypeId} {cs : List Value} {p : Option Addr} {cap : Nat} {bs : List Nat} (hr : Row w W t cs) (ht : t ≠ 5) (h : Own w base p cap bs) : blk p ≠ some W := fun e => by
  obtain ⟨_, _, cur, hh⟩ := own_blk h e
  have := Option.some.inj ((show w.heap[W]? = _ from hr).symm.trans hh)
  exact ht (Obj.cells.inj this).2.1
/-- Two slices in blocks of their own. -/
def Sep (p q : Option Addr) : Prop := ∀ k, blk p = some k → blk q ≠ some k
theorem Sep.symm {p q : Option Addr} (h : Sep p q) : Sep q p := fun k hq hp => h k hp hq
theorem Sep.next {W : Option Nat} {p p' q : Option Addr} {w w' : World} {base c : Nat} {ws : List Nat} (h : Sep p q) (hs : Step W p p' w w') (ho : Own w base q c ws) : Sep p' q := fun k hk hq => by
  rcases hs.next with e | ⟨g, e, hg⟩
  · exact h k (e ▸ hk) hq
  · have h1 := (own_blk ho hq).2.1
    have : g = k := Option.some.inj (e.symm.trans hk)
    omega
theorem own_step {W : Option Nat} {p p' q : Option Addr} {w w' : World} {base c : Nat} {ws : List Nat} (ho : Own w base q c ws) (hs : Step W p p' w w') (h : Sep p q) (hW : ∀ k, W = some k → blk q ≠ some k) : Own w' base q c ws := by
  refine ⟨ho.own.1, ?_⟩
  rcases ho.own.2 with h2 | ⟨g, cap', cur, hv, hg, hh, r⟩
  · exact .inl h2
  · have hq : blk q = some g := by rw [(Value.slice.inj hv).1]; rfl
    exact .inr ⟨g, cap', cur, hv, hg, by rw [hs.block g (Array.getElem?_eq_some_iff.1 hh).1 (fun e => hW g e hq) (fun e => h g e hq)]; exact hh, r⟩
section
variable {ops : Array Oper} {rest : List Oper} {o : Oper} {a : Act} {w : World} {Q : Exit → Act → World → Prop}
/-- 'append(s, x...)' of bytes onto a slice of the call's own; what else has changed. -/
theorem arm_append2 (hgd : o.guard = none) (s x : Operand) (ho : o.op = .call { callee := .builtin .append, args := #[s, x], argTypes := #[69, 69] }) (base : Nat) (p : Option Addr) (n cap : Nat) (bs : List Nat) (hn : n = bs.length)
    (hs : a.eval s = .slice p n cap) (hown : Own w base p cap bs) (q : Option Addr) (m c : Nat) (ys : List Nat) (hx : a.eval x = .slice q m c) (hm : m = ys.length) (hq : q = none → m = 0 ∧ c = 0)
    (hy : ys ≠ [] → ∃ g go, q = some ⟨g, go, none⟩ ∧ w.rangeAt g go (u8s ys)) (hz : bs.length + ys.length ≤ 1000000000) (hb : base ≤ w.heap.size)
    (h : ∀ p' cap' w', Own w' base p' cap' (bs ++ ys) → Step none p p' w w' → wpList Tryd.prog ops Q rest (a.put o.dst (.slice p' (n + m) cap')) w') : wpList Tryd.prog ops Q (o :: rest) a w := by
  subst hm hn
  rw [← List.length_append] at h
  obtain ⟨i0, hi, hz0, hz1, hz2⟩ := info_parts info5
  cases q with
  | none =>
    obtain ⟨h0, rfl⟩ := hq rfl
    have hnil : ys = [] := List.eq_nil_of_length_eq_zero h0
    subst hnil
    refine wpList_append_own_none hgd s x 69 ho base 5 i0 1 (by kernel_rfl) hi _ _ _ hs hown.own hx ?_
    have := h p cap w (by rw [List.append_nil]; exact hown) (Step.refl _ _ _)
    rw [List.append_nil] at this
    exact this
  | some ad =>
    have hnews : ∀ j u, (u8s ys)[j]? = some u → w.cell? (ad.add j) = some u := by
      intro j u hj
      have hne : ys ≠ [] := by intro e; subst e; simp [u8s] at hj
      obtain ⟨g, go, e, hr⟩ := hy hne
      have e' : ad = ⟨g, go, none⟩ := Option.some.inj e
      rw [e', Addr.add_mid]
      exact hr j u hj
    refine wpList_append_own_at w hgd s x 69 ho base 5 i0 (.int .u8 0) 1 1 (by kernel_rfl) hi hz0 hz1 hz2 rfl (by decide) _ _ _ hs hown.own ad ys.length c (u8s ys) hx (by rw [u8s_length, Nat.mul_one]) hnews (u8s_one _) (by unfold maxLen; omega) (by omega) hb ?_
    intro v' w' hown' hgrow _ hat
    rw [← u8s_append, ← List.length_append] at hown'
    obtain ⟨p', cap', hv, hO⟩ := Own.of_slice hown'
    have e1 : ∀ (p : Option Addr) (n c : Nat), (Value.slice p n c).ownBlock = blk p := fun p n c => by cases p <;> rfl
    rw [hv, e1, e1] at hat
    rw [e1] at hgrow
    rw [hv]
    refine h p' cap' w' hO ⟨hgrow.os, hgrow.tape, hgrow.output, hgrow.size, fun k hk _ h2 => hgrow.block k hk (fun e => h2 e.symm), ?_⟩
    rcases hat with e | e
    · exact .inl e
    · exact .inr ⟨_, e, Nat.le_refl _⟩
end
/-- A writer that has written these bytes. -/
structure Wr (w : World) (base W : Nat) (p : Option Addr) (cap : Nat) (bs : List Nat) : Prop where
  row : Row w W 86 [.slice p bs.length cap]
  own : Own w base p cap bs
  low : base ≤ W
theorem Wr.lt {w : World} {base W : Nat} {p : Option Addr} {cap : Nat} {bs : List Nat} (h : Wr w base W p cap bs) : W < w.heap.size := h.row.lt
theorem Wr.apart {w : World} {base W : Nat} {p : Option Addr} {cap : Nat} {bs : List Nat} (h : Wr w base W p cap bs) : blk p ≠ some W := row_not_own h.row (by decide) h.own
theorem Wr.old {w w' : World} {base W : Nat} {p : Option Addr} {cap : Nat} {bs : List Nat} (h : Wr w base W p cap bs) (hb : Below w.heap.size w w') : Wr w' base W p cap bs := ⟨h.row.old hb, h.own.below hb, h.low⟩
theorem Wr.below {w w' : World} {base W : Nat} {p p' : Option Addr} {cap : Nat} {bs : List Nat} (h : Wr w base W p cap bs) (hs : Step (some W) p p' w w') (hb : base ≤ w.heap.size) : Below base w w' :=
  hs.below (fun k hk => by rw [← Option.some.inj hk]; exact h.low) (own_low h.own) hb
/-- What writing leaves. -/
structure WrPost (w : World) (base W : Nat) (p : Option Addr) (v : Value) (bs : List Nat) (e : Ending) (w' : World) : Prop where
  ex : e = .returned v ∧ ∃ p' cap', Wr w' base W p' cap' bs ∧ Step (some W) p p' w w'
theorem zero_wr : Mem.Zero Tryd.prog 86 [.slice none 0 0] := by unfold Mem.Zero; kernel_rfl
theorem wr_new {w : World} {base W : Nat} (hr : Row w W 86 [.slice none 0 0]) (hb : base ≤ W) : Wr w base W none 0 [] := ⟨hr, own_nil w base, hb⟩
/-- One more store of the struct behind the growth of its bytes. -/
theorem wr_stored {w w1 w2 : World} {base W : Nat} {p p' : Option Addr} {cap' : Nat} {bs' : List Nat} {v : Value} (hr : Row w W 86 [v]) (hp : blk p ≠ some W) (hs : Step none p p' w w1) (ho : Own w1 base p' cap' bs') (hl : base ≤ W)
    (hr2 : Row w2 W 86 [.slice p' bs'.length cap']) (ho2 : Only W w1 w2) : Wr w2 base W p' cap' bs' ∧ Step (some W) p p' w w2 := by
  have hr1 : Row w1 W 86 [v] := hr.of_block (hs.block W hr.lt (by simp) hp)
  refine ⟨⟨hr2, own_step ho (Step.of_only W none ho2) (fun k hk => by simp [blk] at hk) (fun k hk => by rw [← Option.some.inj hk]; exact row_not_own hr1 (by decide) ho), hl⟩, (hs.some_ _).trans (Step.of_only W p' ho2)⟩

set_option maxRecDepth 100000 in
theorem wByte_any (n : Nat) (base W : Nat) (p : Option Addr) (cap : Nat) (bs : List Nat) (w : World) (h : Wr w base W p cap bs) (hb : base ≤ w.heap.size) (hl : bs.length ≤ 1000000) :
    Calls Tryd.prog 59 #[.pointer (some ⟨W, 0, none⟩), .int .u8 (n : Int)] w (WrPost w base W p (.tuple #[]) (bs ++ [n])) := by
  have H := Lib.hid h
  have hc : w.cell? ⟨W, 0, none⟩ = some (.slice p bs.length cap) := h.row.cell rfl
  clear h
  go_enter Tryd.func59, Tryd.ntmps59
  go_wp2_with (first
    | ((with_reducible refine at_slot 10 ?_); (refine arm_buildSlice (o := ⟨some 10, _, _, _, _, _⟩) rfl 1 _ rfl [.int .u8 (n : Int)] #[(0, .int .u8 (n : Int))] (by simp [Act.eval]) (bs1 _) ?_); intro b1 w1 hb1 hR1 hN1)
    | ((with_reducible refine at_slot 11 ?_); (refine arm_append2 (o := ⟨some 11, _, _, _, _, _⟩) rfl _ _ rfl base p bs.length cap bs rfl rfl (H.out.own.below hN1.below) (some ⟨b1, 0, none⟩) 1 1 [n] rfl rfl (fun h => by cases h) (fun _ => ⟨b1, 0, rfl, hR1.range 0 _ (fun j v hj => by rw [Nat.zero_add]; exact hj)⟩) (by simp; omega) (by have := hN1.below.size; omega) ?_); intro p2 cap2 w2 hO2 hS2; have hr2 := (H.out.row.old hN1.below).of_block (hS2.block W (Nat.lt_of_lt_of_le H.out.lt hN1.below.size) (by simp) H.out.apart))
    | ((with_reducible refine arm_storeV (o := ⟨none, _, _, _, _, _⟩) rfl _ _ _ rfl W 0 rfl _ rfl rfl (by kernel_rfl) _ _ hr2 (by rw [List.length_cons]; omega) ?_); intro w3 hR3 hO3 hZ3))
  go_end0
  have hst := wr_stored (H.out.row.old hN1.below) H.out.apart hS2 hO2 H.out.low (by rw [List.length_append]; exact hR3) hO3
  exact ⟨rfl, p2, cap2, hst.1, (Step.of_below (some W) p hN1.below).trans hst.2⟩
end Go.Proofs.YtnjmocobncncdaaDoor.Wi

/-
  The contracts of wire's Writer (number, Num, Long, Hash, Text, Bytes) and of bytes.Clone, over this seat's translation.
-/
namespace Go.Proofs.YtnjmocobncncdaaDoor.Wi
open Go.ChangeShapes Go.WideShapes Go.ChangeAt Go.RowKit Go.Proofs.YtnjmocobncncdaaDoor.Mem Go.Proofs.YtnjmocobncncdaaDoor.Bt Go.Proofs.YtnjmocobncncdaaDoor.Tg
set_option linter.unusedVariables false

/-- What holds in number's loop. -/
structure NuRel (w : World) (base W : Nat) (p : Option Addr) (bs : List Nat) (n s : Nat) (i : Value) (wr : World) : Prop where
  ex : ∃ k : Nat, k ≤ s ∧ i = .int .i64 k ∧ ∃ p' cap', Wr wr base W p' cap' (bs ++ (put n s).take k) ∧ Step (some W) p p' w wr
set_option maxHeartbeats 1000000 in
set_option maxRecDepth 100000 in
theorem wNumber_any (n s : Nat) (base W : Nat) (p : Option Addr) (cap : Nat) (bs : List Nat) (w : World) (h : Wr w base W p cap bs) (hb : base ≤ w.heap.size) (hl : bs.length ≤ 900000) (hn : n < 18446744073709551616) (hs : s ≤ 8) :
    Calls Tryd.prog 48 #[.pointer (some ⟨W, 0, none⟩), .int .u64 (n : Int), .int .i64 (s : Int)] w (WrPost w base W p (.tuple #[]) (bs ++ put n s)) := by
  have h0 : NuRel w base W p bs n s (.int .i64 0) w := ⟨0, by omega, rfl, p, cap, by rw [List.take_zero, List.append_nil]; exact h, Step.refl _ _ _⟩
  clear h
  go_enter Tryd.func48, Tryd.ntmps48
  go_wp2_with fail
  go_loopw [8] (fun i wr => NuRel w base W p bs n s i wr) (fun i _ => s - (intOf i).toNat)
  case atStart => exact h0
  case round =>
    clear h0
    obtain ⟨k, hk, rfl, q, c, hW, hS⟩ := hrel
    by_cases hlt : k < s
    · have ik : (k : Int) < (s : Int) := by omega
      have HW := Lib.hid hW; have HS := Lib.hid hS; clear hW hS
      have HV : Hid ((n : Int) / 2 ^ (8 * (s - 1 - k)) % 256 = ((n / 256 ^ (s - 1 - k) % 256 : Nat) : Int)) := Lib.hid (by
        rw [show (256 : Nat) ^ (s - 1 - k) = 2 ^ (8 * (s - 1 - k)) by rw [Nat.pow_mul]]
        simp)
      go_wp2_with fail
      rw [HV.out]
      refine (wByte_any _ base W q c _ wr HW.out (Nat.le_trans hb HS.out.size) (by rw [List.length_append, List.length_take]; omega)).mono ?_
      rintro e w2 ⟨rfl, q2, c2, hW2, hS2⟩
      go_wp2_with fail
      go_roundw
      case rel => exact ⟨k + 1, by omega, by go_num, q2, c2, by rw [put_take s n k hlt, ← List.append_assoc]; exact hW2, HS.out.trans hS2⟩
      case measure => simp [intOf]; omega
    · obtain rfl : k = s := by omega
      rw [List.take_of_length_le (by rw [put_length]; omega)] at hW
      go_wp2_with fail
      go_end0
      exact ⟨rfl, q, c, hW, hS⟩

set_option maxRecDepth 100000 in
theorem wNum_any (n : Nat) (base W : Nat) (p : Option Addr) (cap : Nat) (bs : List Nat) (w : World) (h : Wr w base W p cap bs) (hb : base ≤ w.heap.size) (hl : bs.length ≤ 900000) (hn : n < 4294967296) :
    Calls Tryd.prog 34 #[.pointer (some ⟨W, 0, none⟩), .int .u32 (n : Int)] w (WrPost w base W p (.tuple #[]) (bs ++ put n 4)) := by
  have H := Lib.hid h; clear h
  go_enter Tryd.func34, Tryd.ntmps34
  go_wp2_with fail
  refine (wNumber_any n 4 base W p cap bs w H.out hb hl (by omega) (by omega)).mono ?_
  rintro e w2 ⟨rfl, q2, c2, hW2, hS2⟩
  go_wp2_with fail
  go_end0
  exact ⟨rfl, q2, c2, hW2, hS2⟩
end Go.Proofs.YtnjmocobncncdaaDoor.Wi

/-
  The contracts of bytes.Clone and of wire's Writer.Bytes, Writer.Hash, over this seat's translation.
-/
namespace Go.Proofs.YtnjmocobncncdaaDoor.Wi
open Go.ChangeShapes Go.WideShapes Go.ChangeAt Go.RowKit Go.Proofs.YtnjmocobncncdaaDoor.Mem Go.Proofs.YtnjmocobncncdaaDoor.Bt Go.Proofs.YtnjmocobncncdaaDoor.Tg
set_option linter.unusedVariables false

/-- A copy in memory of its own. -/
structure ClonePost (w : World) (bs : List Nat) (e : Ending) (w' : World) : Prop where
  ex : ∃ p cap, e = .returned (.slice p bs.length cap) ∧ Own w' w.heap.size p cap bs
  bel : Below w.heap.size w w'
set_option maxRecDepth 100000 in
theorem clone_any (bs : List Nat) (p : Option Addr) (cap : Nat) (w : World) (h : Rd w p bs) (hn : p = none → bs.length = 0 ∧ cap = 0) (hl : bs.length ≤ 1000000) :
    Calls Tryd.prog 49 #[.slice p bs.length cap] w (ClonePost w bs) := by
  have H := Lib.hid h; clear h
  cases p with
  | none =>
    obtain ⟨h0, rfl⟩ := hn rfl
    obtain rfl : bs = [] := List.eq_nil_of_length_eq_zero h0
    rw [show ([] : List Nat).length = 0 from rfl]
    have hE : ∀ w : World, (binOp .eql 69 (.slice none 0 0) (.slice none 0 0)).run Tryd.prog w = .ok (.bool true) w := fun w => by kernel_rfl
    go_enter Tryd.func49, Tryd.ntmps49
    go_wp2_with fail
    go_ret
    exact ⟨⟨none, 0, rfl, own_nil _ _⟩, Below.refl _ _⟩
  | some ad =>
    clear hn
    have hE : ∀ w : World, (binOp .eql 69 (.slice (some ad) bs.length cap) (.slice none 0 0)).run Tryd.prog w = .ok (.bool false) w := fun w => by kernel_rfl
    go_enter Tryd.func49, Tryd.ntmps49
    go_wp2_with (first
      | ((with_reducible refine at_slot 5 ?_); (refine arm_buildSlice (o := ⟨some 5, _, _, _, _, _⟩) rfl 0 _ rfl [] #[] (by simp) bs0 ?_); intro b1 w1 hb1 hR1 hN1)
      | ((with_reducible refine at_slot 7 ?_); (refine arm_append2 (o := ⟨some 7, _, _, _, _, _⟩) rfl _ _ rfl w.heap.size (some ⟨b1, 0, none⟩) 0 0 [] rfl rfl (own_new hR1 (by have := hb1.out; omega)) (some ad) bs.length cap bs rfl rfl (fun h => by cases h) (H.out.below hN1.below).at_ (by rw [List.length_nil]; omega) (by have := hN1.below.size; omega) ?_); intro p2 cap2 w2 hO2 hS2))
    go_ret
    refine ⟨⟨p2, cap2, rfl, hO2⟩, hN1.below.trans (hS2.below (fun k hk => by cases hk) (fun k hk => ?_) hN1.below.size)⟩
    have e1 := hb1.out
    have e2 : b1 = k := Option.some.inj hk
    omega
theorem own_none {w : World} {base : Nat} {p : Option Addr} {cap : Nat} {bs : List Nat} (h : Own w base p cap bs) : p = none → bs.length = 0 ∧ cap = 0 := fun e => by
  subst e
  rcases h.own.2 with ⟨hv, hn⟩ | ⟨g, cap', cur, hv, _⟩
  · exact ⟨hn, (Value.slice.inj hv).2.2⟩
  · cases (Value.slice.inj hv).1
set_option maxRecDepth 100000 in
theorem wBytes_any (base W : Nat) (p : Option Addr) (cap : Nat) (bs : List Nat) (w : World) (h : Wr w base W p cap bs) (hl : bs.length ≤ 1000000) :
    Calls Tryd.prog 35 #[.pointer (some ⟨W, 0, none⟩)] w (ClonePost w bs) := by
  have hc : w.cell? ⟨W, 0, none⟩ = some (.slice p bs.length cap) := h.row.cell rfl
  have H := Lib.hid h; clear h
  go_enter Tryd.func35, Tryd.ntmps35
  go_wp2_with fail
  refine (clone_any bs p cap w H.out.own.rd (own_none H.out.own) hl).mono ?_
  rintro e w1 ⟨⟨q, c, rfl, hO⟩, hB⟩
  go_wp2_with fail
  go_ret
  exact ⟨⟨q, c, rfl, hO⟩, hB⟩
section
variable {o : Oper} {a : Act} {w : World}
/-- 'append(s, x...)' onto a slice of the call's own, run. -/
theorem run_op_append2 (s x : Operand) (ho : o.op = .call { callee := .builtin .append, args := #[s, x], argTypes := #[69, 69] }) (base : Nat) (p : Option Addr) (n cap : Nat) (bs : List Nat) (hn : n = bs.length)
    (hs : a.eval s = .slice p n cap) (hown : Own w base p cap bs) (q : Option Addr) (m c : Nat) (ys : List Nat) (hx : a.eval x = .slice q m c) (hm : m = ys.length) (hq : q = none → m = 0 ∧ c = 0)
    (hy : ys ≠ [] → ∃ g go, q = some ⟨g, go, none⟩ ∧ w.rangeAt g go (u8s ys)) (hz : bs.length + ys.length ≤ 1000000000) (hb : base ≤ w.heap.size) :
    ∃ p' cap' w', (execOp a.eval o).run Tryd.prog w = .ok (.value (.slice p' (n + m) cap')) w' ∧ Own w' base p' cap' (bs ++ ys) ∧ Step none p p' w w' := by
  subst hm hn
  rw [← List.length_append]
  obtain ⟨i0, hi, hz0, hz1, hz2⟩ := info_parts info5
  cases q with
  | none =>
    obtain ⟨h0, rfl⟩ := hq rfl
    have hnil : ys = [] := List.eq_nil_of_length_eq_zero h0
    subst hnil
    have hrun := run_append_owned_none (P := Tryd.prog) (w := w) base 69 o.type 5 i0 1 (by kernel_rfl) hi _ _ _ hown.own
    refine ⟨p, cap, w, ?_, by rw [List.append_nil]; exact hown, Step.refl _ _ _⟩
    rw [List.append_nil]
    simp [execOp, ho, resolve, invoke, builtin, hs, hx, hrun, Result.andThen]
  | some ad =>
    have hnews : ∀ j u, (u8s ys)[j]? = some u → w.cell? (ad.add j) = some u := by
      intro j u hj
      have hne : ys ≠ [] := by intro e; subst e; simp [u8s] at hj
      obtain ⟨g, go, e, hr⟩ := hy hne
      have e' : ad = ⟨g, go, none⟩ := Option.some.inj e
      rw [e', Addr.add_mid]
      exact hr j u hj
    obtain ⟨v', w', hr, hown', hgrow, _, hat⟩ := run_append_own_at (P := Tryd.prog) w base 69 o.type 5 i0 (.int .u8 0) 1 1 (by kernel_rfl) hi hz0 hz1 hz2 rfl (by decide) _ _ _ hown.own ad ys.length c (u8s ys) (by rw [u8s_length, Nat.mul_one]) hnews (u8s_one _) (by unfold maxLen; omega) (by omega) hb
    rw [← u8s_append, ← List.length_append] at hown'
    obtain ⟨p', cap', hv, hO⟩ := Own.of_slice hown'
    have e1 : ∀ (p : Option Addr) (n c : Nat), (Value.slice p n c).ownBlock = blk p := fun p n c => by cases p <;> rfl
    rw [hv, e1, e1] at hat
    rw [e1] at hgrow
    rw [hv] at hr
    refine ⟨p', cap', w', ?_, hO, ⟨hgrow.os, hgrow.tape, hgrow.output, hgrow.size, fun k hk _ h2 => hgrow.block k hk (fun e => h2 e.symm), ?_⟩⟩
    · unfold execOp
      simp only [ho, resolve, invoke, builtin, Sem.run_bind, Sem.run_pure, Result.andThen_ok, List.map_toArray, List.map_cons, List.map_nil, hs, hx, hr]
    · rcases hat with e | e
      · exact .inl e
      · exact .inr ⟨_, e, Nat.le_refl _⟩
end
section
variable {ops : Array Oper} {Q : Exit → Act → World → Prop} {o : Oper} {a : Act} {w : World}
end
set_option maxHeartbeats 1000000 in
set_option maxRecDepth 100000 in
theorem wHash_any (hh : List Nat) (base W : Nat) (p : Option Addr) (cap : Nat) (bs : List Nat) (w : World) (h : Wr w base W p cap bs) (hb : base ≤ w.heap.size) (hl : bs.length ≤ 900000) (hlen : hh.length = 32) :
    Calls Tryd.prog 33 #[.pointer (some ⟨W, 0, none⟩), .agg (u8s hh).toArray] w (WrPost w base W p (.tuple #[]) (bs ++ hh)) := by
  have H := Lib.hid h; have HL := Lib.hid hlen
  clear h hlen
  go_enter Tryd.func33, Tryd.ntmps33
  go_wp2_with (first
    | ((with_reducible refine at_slot 3 ?_); (refine arm_box (o := ⟨some 3, _, _, _, _, _⟩) rfl _ _ rfl (u8s hh) rfl ?_); intro B w1 hB hR1 hN1))
  have eB := hB.out
  have hW1 := H.out.old hN1.below
  have HWz : Hid (Wr w1.drew base W p cap bs) := Lib.hid (hW1.old ((Below.refl _ _).drew))
  have hBz : Row w1.drew B 29 (u8s hh) := hR1
  have hpB : blk p ≠ some B := fun e => by have := (own_blk H.out.own e).2.1; omega
  have hWB : W ≠ B := by have := H.out.lt; omega
  have hS1 : Step (some W) p p w w1.drew := Step.of_below _ _ (hN1.below.trans ((Below.refl _ _).drew))
  have HPB := Lib.hid (And.intro hpB hWB)
  have hbz : base ≤ w1.drew.heap.size := Nat.le_trans hb hS1.size
  clear eB hW1 hR1 hN1 hB hpB hWB
  refine wp_region_held (S := fun w' => True) (by kernel_rfl) ?_
  change wpAnyH _ _ _ _ _ _ _ _ w1.drew
  generalize w1.drew = wz at HWz hBz hS1 hbz ⊢
  have hS : True := True.intro
  refine h_take 0 (.pointer (some ⟨W, 0, none⟩)) rfl 4 rfl (by kernel_rfl) (by kernel_rfl) (by kernel_rfl) (by kernel_rfl) (fun _ _ _ h => h) (fun w' _ => by kernel_rfl) hS ?_
  simp only [Act.put, List.setIfInBounds_toArray, List.set_cons_zero, List.set_cons_succ]
  refine h_take 1 (.pointer (some ⟨W, 0, none⟩)) rfl 5 rfl (by kernel_rfl) (by kernel_rfl) (by kernel_rfl) (by kernel_rfl) (fun _ _ _ h => h) (fun w' _ => by kernel_rfl) hS ?_
  simp only [Act.put, List.setIfInBounds_toArray, List.set_cons_zero, List.set_cons_succ]
  refine h_take 2 (.pointer (some ⟨W, 0, none⟩)) rfl 6 rfl (by kernel_rfl) (by kernel_rfl) (by kernel_rfl) (by kernel_rfl) (fun _ _ _ h => h) (fun w' _ => by kernel_rfl) hS ?_
  simp only [Act.put, List.setIfInBounds_toArray, List.set_cons_zero, List.set_cons_succ]
  refine h_take 3 (.pointer (some ⟨W, 0, none⟩)) rfl 7 rfl (by kernel_rfl) (by kernel_rfl) (by kernel_rfl) (by kernel_rfl) (fun _ _ _ h => h) (fun w' _ => by kernel_rfl) hS ?_
  simp only [Act.put, List.setIfInBounds_toArray, List.set_cons_zero, List.set_cons_succ]
  refine h_take 5 (.slice (some ⟨B, 0, none⟩) 32 32) rfl 9 rfl (by kernel_rfl) (by kernel_rfl) (by kernel_rfl) (by kernel_rfl) (fun _ _ _ h => h) (fun w' _ => run_op_sliceAll _ _ rfl 32 5 (by kernel_rfl) (by kernel_rfl) B 0 rfl (by omega) w') hS ?_
  simp only [Act.put, List.setIfInBounds_toArray, List.set_cons_zero, List.set_cons_succ]
  refine h_one (i := 4) (by kernel_rfl) (o_value (.slice p bs.length cap) rfl 8 rfl (by kernel_rfl) (run_op_load1 _ _ rfl (.slice 5) (by kernel_rfl) rfl _ rfl _ (HWz.out.row.cell rfl)) ?_)
  refine ⟨hS, ?_⟩
  simp only [Act.put, List.setIfInBounds_toArray, List.set_cons_zero, List.set_cons_succ]
  obtain ⟨p2, cap2, w2, hr2, hO2, hS2⟩ := run_op_append2 (o := ⟨some 10, .call { callee := .builtin .append, args := #[.tmp 8, .tmp 9], argTypes := #[69, 69] }, 69, "wire.go:31", #[⟨4, .data⟩, ⟨5, .data⟩], none⟩) (a := { tmps := #[.pointer (some ⟨W, 0, none⟩), .agg (u8s hh).toArray, undef, .pointer (some ⟨B, 0, none⟩), .pointer (some ⟨W, 0, none⟩), .pointer (some ⟨W, 0, none⟩), .pointer (some ⟨W, 0, none⟩), .pointer (some ⟨W, 0, none⟩), .slice p bs.length cap, .slice (some ⟨B, 0, none⟩) 32 32, undef, undef, undef], defers := [] }) (w := wz)
    _ _ rfl base p bs.length cap bs rfl rfl HWz.out.own (some ⟨B, 0, none⟩) 32 32 hh rfl HL.out.symm (fun h => by cases h) (fun _ => ⟨B, 0, rfl, hBz.range 0 _ (fun j v hj => by rw [Nat.zero_add]; exact hj)⟩) (by rw [HL.out]; omega) hbz
  have hW2 := HWz.out.row.of_block (hS2.block W HWz.out.lt (by simp) HWz.out.apart)
  refine h_one (i := 6) (by kernel_rfl) (o_value _ rfl 10 rfl (by kernel_rfl) hr2 ?_)
  refine ⟨hS, ?_⟩
  simp only [Act.put, List.setIfInBounds_toArray, List.set_cons_zero, List.set_cons_succ]
  refine h_take 7 (.pointer (some ⟨W, 0, none⟩)) rfl 11 rfl (by kernel_rfl) (by kernel_rfl) (by kernel_rfl) (by kernel_rfl) (fun _ _ _ h => h) (fun w' _ => by kernel_rfl) hS ?_
  simp only [Act.put, List.setIfInBounds_toArray, List.set_cons_zero, List.set_cons_succ]
  refine h_take 8 (.pointer (some ⟨W, 0, none⟩)) rfl 12 rfl (by kernel_rfl) (by kernel_rfl) (by kernel_rfl) (by kernel_rfl) (fun _ _ _ h => h) (fun w' _ => by kernel_rfl) hS ?_
  simp only [Act.put, List.setIfInBounds_toArray, List.set_cons_zero, List.set_cons_succ]
  refine h_one (i := 9) (by kernel_rfl) (o_skip rfl rfl (by kernel_rfl) (run_op_storeV _ _ _ rfl W 0 rfl (.slice p2 (bs.length + 32) cap2) rfl rfl (by kernel_rfl) _ _ hW2 (by rw [List.length_cons]; omega)) ?_)
  have hR3 := row_setRow hW2 ([Value.slice p bs.length cap].set 0 (.slice p2 (bs.length + 32) cap2))
  have hO3 := Only.setRow W w2 ([Value.slice p bs.length cap].set 0 (.slice p2 (bs.length + 32) cap2)).toArray
  generalize w2.setRow W ([Value.slice p bs.length cap].set 0 (.slice p2 (bs.length + 32) cap2)).toArray = w3 at hR3 hO3 ⊢
  refine ⟨hS, ?_⟩
  refine wpAnyH_done (by kernel_rfl) ?_ _
  have hst := wr_stored HWz.out.row HWz.out.apart hS2 hO2 HWz.out.low (by rw [List.length_append, HL.out]; exact hR3) hO3
  clear hR3 hO3 hW2 hr2 hO2 hBz hS
  go_wp2_with fail
  go_end0
  exact ⟨rfl, p2, cap2, hst.1, hS1.trans hst.2⟩
end Go.Proofs.YtnjmocobncncdaaDoor.Wi

/-
  A reader's memory: its struct, and the bytes that are left; the contracts of wire's Reader (fail, take, number, Byte, Num, Long, Left, End), over this seat's translation.
-/
namespace Go.Proofs.YtnjmocobncncdaaDoor.Wi
open Go.ChangeShapes Go.WideShapes Go.ChangeAt Go.RowKit Go.Proofs.YtnjmocobncncdaaDoor.Mem Go.Proofs.YtnjmocobncncdaaDoor.Bt Go.Proofs.YtnjmocobncncdaaDoor.Tg
set_option linter.unusedVariables false

end Go.Proofs.YtnjmocobncncdaaDoor.Wi

/-
  The contracts of wire's Reader (number, Byte, Num, Long, Left, End), over this seat's translation.
-/
namespace Go.Proofs.YtnjmocobncncdaaDoor.Wi
open Go.ChangeShapes Go.WideShapes Go.ChangeAt Go.RowKit Go.Proofs.YtnjmocobncncdaaDoor.Mem Go.Proofs.YtnjmocobncncdaaDoor.Bt Go.Proofs.YtnjmocobncncdaaDoor.Tg
set_option linter.unusedVariables false

end Go.Proofs.YtnjmocobncncdaaDoor.Wi

/-
  The contracts of wire's Reader (Text, Hash), over this seat's translation.
-/
namespace Go.Proofs.YtnjmocobncncdaaDoor.Wi
open Go.ChangeShapes Go.WideShapes Go.ChangeAt Go.RowKit Go.Proofs.YtnjmocobncncdaaDoor.Mem Go.Proofs.YtnjmocobncncdaaDoor.Bt Go.Proofs.YtnjmocobncncdaaDoor.Tg
set_option linter.unusedVariables false

section
variable {P : Program} {o : Oper} {a : Act} {w : World}
end
end Go.Proofs.YtnjmocobncncdaaDoor.Wi
