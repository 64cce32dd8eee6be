import Derived.Test.YtnjmocobncncdaaDoorMemAll
import Derived.Deep.Slices
import Derived.Maps.AppendAt
/-
  Slices of whole values (arrays and structs), over whatever program: those that lie in memory, those that the call makes itself; written out, cut, indexed and appended to. A 'Kind' tells how one value lies.
-/
namespace Go.Proofs.YtnjmocobncncdaaDoor.Sl
open Go.RowKit Go.Proofs.YtnjmocobncncdaaDoor.Mem
set_option linter.unusedVariables false
set_option linter.unusedSimpArgs false

/-- How a value lies: its cells, which values may be, the zero value, how many cells it has, its type, the slices' type, its bytes. -/
structure Kind (α : Type) where
  cs : α → List Value
  ok : α → Prop
  z : α
  n : Nat
  t : TypeId
  ts : TypeId
  bytes : Nat
structure Kind.Fit {α : Type} (K : Kind α) (P : Program) : Prop where
  len : ∀ x, K.ok x → (K.cs x).length = K.n
  one : ∀ x, OneCells (K.cs x)
  zok : K.ok K.z
  pos : 0 < K.n
  small : K.n ≤ 4096
  bsmall : K.bytes ≤ 65536
  und : P.underlying K.ts = some (.slice K.t)
  row : ∃ d : TypeDesc, P.underlying K.t = some d ∧ d.isRow = true
  info : (P.info? K.t).map (fun i => (i.zero, i.size, i.bytes)) = some (some (.agg (K.cs K.z).toArray), K.n, K.bytes)
section
variable {α : Type} {K : Kind α} {P : Program}
theorem Kind.Fit.parts (F : K.Fit P) : ∃ i, P.info? K.t = some i ∧ i.zero = some (.agg (K.cs K.z).toArray) ∧ i.size = K.n ∧ i.bytes = K.bytes := by
  have h := F.info
  cases hi : P.info? K.t with
  | none => rw [hi] at h; cases h
  | some i =>
    rw [hi] at h
    simp only [Option.map_some, Option.some.injEq, Prod.mk.injEq] at h
    exact ⟨i, rfl, h.1, h.2.1, h.2.2⟩
theorem Kind.Fit.size (F : K.Fit P) : (P.info? K.t).map (·.size) = some K.n := by
  obtain ⟨i, hi, _, hs, _⟩ := F.parts
  rw [hi, Option.map_some, hs]
variable (K) in
def Kind.all (l : List α) : List Value := l.flatMap K.cs
variable (K) in
def Kind.AllOk (l : List α) : Prop := ∀ x ∈ l, K.ok x
theorem all_nil : K.all [] = [] := rfl
theorem all_cons (x : α) (l : List α) : K.all (x :: l) = K.cs x ++ K.all l := List.flatMap_cons
theorem all_append (l m : List α) : K.all (l ++ m) = K.all l ++ K.all m := List.flatMap_append
theorem all_one1 (x : α) : K.all [x] = K.cs x := by rw [all_cons]; exact List.append_nil _
theorem allOk_nil : K.AllOk [] := fun _ h => by cases h
theorem allOk_cons {x : α} {l : List α} (h : K.ok x) (g : K.AllOk l) : K.AllOk (x :: l) := fun c hc => by
  rcases List.mem_cons.1 hc with rfl | hc
  · exact h
  · exact g c hc
theorem AllOk.tail {x : α} {l : List α} (h : K.AllOk (x :: l)) : K.AllOk l := fun c hc => h c (by simp [hc])
theorem AllOk.head {x : α} {l : List α} (h : K.AllOk (x :: l)) : K.ok x := h x (by simp)
theorem AllOk.append {l m : List α} (h : K.AllOk l) (g : K.AllOk m) : K.AllOk (l ++ m) := fun c hc => by
  rcases List.mem_append.1 hc with hc | hc
  · exact h c hc
  · exact g c hc
theorem AllOk.take {l : List α} (h : K.AllOk l) (m : Nat) : K.AllOk (l.take m) := fun c hc => h c (List.mem_of_mem_take hc)
theorem AllOk.drop {l : List α} (h : K.AllOk l) (m : Nat) : K.AllOk (l.drop m) := fun c hc => h c (List.mem_of_mem_drop hc)
theorem AllOk.get {l : List α} (h : K.AllOk l) {k : Nat} {x : α} (hk : l[k]? = some x) : K.ok x := h x (List.mem_of_getElem? hk)
theorem all_len (F : K.Fit P) : ∀ l : List α, K.AllOk l → (K.all l).length = l.length * K.n
  | [], _ => by rw [all_nil]; simp
  | x :: l, h => by
    rw [all_cons, List.length_append, F.len x (AllOk.head h), all_len F l (AllOk.tail h), List.length_cons, Nat.succ_mul]
    omega
theorem all_ones (F : K.Fit P) : ∀ l : List α, OneCells (K.all l)
  | [] => fun v hv => by cases hv
  | x :: l => fun v hv => by
    rw [all_cons] at hv
    rcases List.mem_append.1 hv with hv | hv
    · exact F.one x v hv
    · exact all_ones F l v hv
theorem all_get (F : K.Fit P) : ∀ l : List α, K.AllOk l → ∀ (k : Nat) (x : α), l[k]? = some x → ∀ (j : Nat) (v : Value), (K.cs x)[j]? = some v → (K.all l)[k * K.n + j]? = some v
  | [], _, k, x, h, _, _, _ => by simp at h
  | c :: l, hl, 0, x, h, j, v, hv => by
    obtain rfl : c = x := by simpa using h
    rw [all_cons, Nat.zero_mul, Nat.zero_add, List.getElem?_append_left (List.getElem?_eq_some_iff.1 hv).1]
    exact hv
  | c :: l, hl, k + 1, x, h, j, v, hv => by
    have := all_get F l (AllOk.tail hl) k x (by simpa using h) j v hv
    rw [all_cons, List.getElem?_append_right (by rw [F.len c (AllOk.head hl), Nat.succ_mul]; omega), F.len c (AllOk.head hl), show (k + 1) * K.n + j - K.n = k * K.n + j by rw [Nat.succ_mul]; omega]
    exact this
theorem all_cell (F : K.Fit P) : ∀ l : List α, K.AllOk l → ∀ (i : Nat) (v : Value), (K.all l)[i]? = some v → ∃ k x j, l[k]? = some x ∧ (K.cs x)[j]? = some v ∧ i = k * K.n + j
  | [], _, i, v, h => by rw [all_nil] at h; simp at h
  | c :: l, hl, i, v, h => by
    rw [all_cons] at h
    by_cases hi : i < (K.cs c).length
    · rw [List.getElem?_append_left hi] at h
      exact ⟨0, c, i, rfl, h, by omega⟩
    · rw [List.getElem?_append_right (by omega)] at h
      obtain ⟨k, x, j, h1, h2, h3⟩ := all_cell F l (AllOk.tail hl) _ v h
      refine ⟨k + 1, x, j, by simpa using h1, h2, ?_⟩
      rw [F.len c (AllOk.head hl)] at h3 hi
      rw [Nat.succ_mul]
      omega
theorem cs_ne (F : K.Fit P) {x : α} (h : K.ok x) : K.cs x ≠ [] := fun e => by
  have := F.len x h
  rw [e] at this
  have := F.pos
  simp only [List.length_nil] at *
  omega
variable (K) in
structure At (w : World) (p : Option Addr) (l : List α) : Prop where
  at_ : ∀ k x, l[k]? = some x → ∃ g o, p = some ⟨g, o, none⟩ ∧ g < w.heap.size ∧ w.rangeAt g (o + k * K.n) (K.cs x)
  ok : K.AllOk l
theorem At.nil (w : World) (p : Option Addr) : At K w p [] := ⟨fun k x h => by simp at h, allOk_nil⟩
theorem At.block {w w' : World} {p : Option Addr} {l : List α} (h : At K w p l) (hs : w.heap.size ≤ w'.heap.size) (hb : ∀ g o, p = some ⟨g, o, none⟩ → g < w.heap.size → w'.heap[g]? = w.heap[g]?) : At K w' p l :=
  ⟨fun k x hk => by
    obtain ⟨g, o, e, hg, hr⟩ := h.at_ k x hk
    exact ⟨g, o, e, Nat.lt_of_lt_of_le hg hs, range_block hr (hb g o e hg)⟩, h.ok⟩
theorem At.below {w w' : World} {p : Option Addr} {l : List α} (h : At K w p l) (hb : Below w.heap.size w w') : At K w' p l := h.block hb.size fun g o e hg => hb.block g hg
/-- What came in stays while the call changes nothing but what it has made. -/
theorem At.came {w v w' : World} {p : Option Addr} {l : List α} (h : At K w p l) (hb : Below w.heap.size w w') : At K w' p l := h.below hb
theorem At.take {w : World} {p : Option Addr} {l : List α} (h : At K w p l) (m : Nat) : At K w p (l.take m) :=
  ⟨fun k x hk => h.at_ k x (by
    rw [List.getElem?_take] at hk
    split at hk
    · exact hk
    · cases hk), AllOk.take h.ok m⟩
/-- Where 'x[m:]' begins. -/
def onN (p : Option Addr) (m n cap : Nat) : Option Addr := if cap = m then p else p.map (·.add (m * n))
theorem At.tail {w : World} {p : Option Addr} {l : List α} {cap : Nat} (h : At K w p l) (m : Nat) (hc : l.length ≤ cap) : At K w (onN p m K.n cap) (l.drop m) :=
  ⟨fun k x hk => by
    rw [List.getElem?_drop] at hk
    obtain ⟨g, o, e, hg, hr⟩ := h.at_ (m + k) x hk
    have hlt := (List.getElem?_eq_some_iff.1 hk).1
    refine ⟨g, o + m * K.n, ?_, hg, ?_⟩
    · unfold onN
      rw [if_neg (by omega), e, Option.map_some, Addr.add_mid]
    · rw [Nat.add_assoc, ← Nat.add_mul]
      exact hr, AllOk.drop h.ok m⟩
theorem At.row {w : World} {g : Nat} {l : List α} (F : K.Fit P) (ho : K.AllOk l) {cs : List Value} {c : List Value} (h : Row w g K.t cs) (e : cs = K.all l ++ c) : At K w (some ⟨g, 0, none⟩) l :=
  ⟨fun k x hk => ⟨g, 0, rfl, h.lt, h.range _ _ fun j v hj => by
    have := all_get F l ho k x hk j v hj
    rw [Nat.zero_add, e, List.getElem?_append_left (List.getElem?_eq_some_iff.1 this).1]
    exact this⟩, ho⟩
theorem At.get {w : World} {p : Option Addr} {l : List α} (h : At K w p l) {k : Nat} (hk : k < l.length) : ∃ x g o, l[k]? = some x ∧ K.ok x ∧ p = some ⟨g, o, none⟩ ∧ g < w.heap.size ∧ w.rangeAt g (o + k * K.n) (K.cs x) := by
  obtain ⟨g, o, e, hg, hr⟩ := h.at_ k _ (List.getElem?_eq_getElem hk)
  exact ⟨_, g, o, List.getElem?_eq_getElem hk, AllOk.get h.ok (List.getElem?_eq_getElem hk), e, hg, hr⟩
section
variable {H : Type} {enc : TypeId × Value → H} {w : World} {base : Nat} {spare : Nat → Bool} {held : Bool} {fuel : Nat} {cs : List Value} {x : DataW H × List MemPlace}
/-- A slice that came in, opened. -/
theorem at_of (F : K.Fit P) (hx : ∀ {fuel : Nat} {cs : List Value} {x : DataW H × List MemPlace}, DataW.trod enc P w base spare held fuel K.t cs = some x → ∃ y : α, cs = K.cs y ∧ K.ok y) (hc : P.cellsOf K.t = K.n) (h : DataW.trod enc P w base spare held fuel K.ts cs = some x) : ∃ (p : Option Addr) (l : List α) (cap : Nat), cs = [.slice p l.length cap] ∧ At K w p l ∧ l.length ≤ maxLen ∧ l.length ≤ cap := by
  rcases Deep.open_slice F.und h with ⟨rfl, _⟩ | ⟨a, len, cap, m, k, D, Pl, rfl, _, hlc, hcm, hmm, _, hV⟩
  · exact ⟨none, [], 0, rfl, At.nil _ _, by simp, by simp⟩
  · have hlm : len ≤ m := by rw [hmm]; split <;> omega
    rw [hc] at hV
    have : Inhabited α := ⟨K.z⟩
    obtain ⟨f, hf⟩ := Deep.choose_lt (α := α) (n := len) (p := fun i y => (∀ j, j < K.n → w.cell? ((a.add (i * K.n)).add j) = (K.cs y)[j]?) ∧ K.ok y) (fun i hi => by
      obtain ⟨cs', h1, h2⟩ := hV i (by omega)
      obtain ⟨y, rfl, hok⟩ := hx h2
      obtain ⟨_, _, hcell⟩ := World.cells?_some h1
      exact ⟨y, hcell, hok⟩)
    have hll : ((List.range len).map f).length = len := by simp
    have hok : K.AllOk ((List.range len).map f) := fun b hb => by
      obtain ⟨i, hi, rfl⟩ := List.mem_map.1 hb
      exact (hf i (List.mem_range.1 hi)).2
    refine ⟨some a, (List.range len).map f, cap, by rw [hll], ⟨fun k b hk => ?_, hok⟩, by rw [hll]; omega, by rw [hll]; omega⟩
    have hkl : k < len := by have := (List.getElem?_eq_some_iff.1 hk).1; omega
    have hb : f k = b := by
      rw [List.getElem?_map, List.getElem?_range hkl] at hk
      exact Option.some.inj hk
    obtain ⟨hc, hko⟩ := hf k hkl
    rw [hb] at hc hko
    have hp := F.pos
    obtain ⟨v0, hv0⟩ : ∃ v, (K.cs (f 0))[0]? = some v := ⟨_, List.getElem?_eq_getElem (by rw [F.len _ (hf 0 (by omega)).2]; omega)⟩
    have hc0 : w.cell? (a.add 0) = some v0 := by
      have := (hf 0 (by omega)).1 0 (by omega)
      rw [Nat.zero_mul] at this
      have e : (a.add 0).add 0 = a.add 0 := by simp [Addr.add]
      rw [e] at this
      rw [this]; exact hv0
    have hsp : a.spot = none := by
      cases hs : a.spot with
      | none => rfl
      | some s =>
        exfalso
        obtain ⟨g, o, sp⟩ := a
        simp only at hs
        subst hs
        simp only [World.cell?, Addr.add] at hc0
        split at hc0 <;> simp_all
    obtain ⟨g, o, sp⟩ := a
    simp only at hsp
    subst hsp
    have hr : w.rangeAt g (o + k * K.n) (K.cs b) := fun j v hj => by
      have hj2 := (List.getElem?_eq_some_iff.1 hj).1
      rw [F.len _ hko] at hj2
      have := hc j hj2
      rw [Addr.add_mid, Addr.add_mid] at this
      rw [this]
      exact hj
    exact ⟨g, o, rfl, range_lt hr (cs_ne F hko), hr⟩
end
variable (K) in
structure Own (w : World) (base : Nat) (p : Option Addr) (cap : Nat) (l : List α) : Prop where
  own : w.ownsRow base K.t K.n (.slice p l.length cap) l.length (K.all l)
  ok : K.AllOk l
def bk : Option Addr → Option Nat
  | some a => some a.block
  | none => none
theorem bk_own (p : Option Addr) (n c : Nat) : (Value.slice p n c).ownBlock = bk p := by cases p <;> rfl
theorem Own.of_slice {w : World} {base : Nat} {v : Value} {l : List α} (h : w.ownsRow base K.t K.n v l.length (K.all l)) (k : K.AllOk l) : ∃ p cap, v = .slice p l.length cap ∧ Own K w base p cap l := by
  rcases h.2 with ⟨hv, hn⟩ | ⟨g, cap, cur, hv, _⟩
  · exact ⟨none, 0, by rw [hv, hn], ⟨by rw [← show v = .slice none l.length 0 from by rw [hv, hn]]; exact h, k⟩⟩
  · exact ⟨_, _, hv, ⟨by rw [← hv]; exact h, k⟩⟩
theorem Own.nil (w : World) (base : Nat) : Own K w base none 0 [] := ⟨⟨by simp [all_nil], .inl ⟨rfl, rfl⟩⟩, allOk_nil⟩
theorem Own.row {w : World} {base g : Nat} {l : List α} (F : K.Fit P) (ho : K.AllOk l) (hg : base ≤ g) (hm : l.length ≤ maxLen) (h : Row w g K.t (K.all l)) : Own K w base (some ⟨g, 0, none⟩) l.length l :=
  ⟨⟨all_len F l ho, .inr ⟨g, l.length, (K.all l).toArray, rfl, hg, h, Nat.le_refl _, hm, by rw [List.size_toArray, all_len F l ho], by rw [List.take_of_length_le (by rw [all_len F l ho]; exact Nat.le_refl _)]⟩⟩, ho⟩
theorem Own.cap {w : World} {base : Nat} {p : Option Addr} {cap : Nat} {l : List α} (h : Own K w base p cap l) : l.length ≤ cap := by
  rcases h.own.2 with ⟨hv, hn⟩ | ⟨g, cap', cur, hv, _, _, hc, _⟩
  · omega
  · obtain ⟨-, -, rfl⟩ : p = some ⟨g, 0, none⟩ ∧ l.length = l.length ∧ cap = cap' := by simpa using hv
    exact hc
/-- As a row of whole blocks: what stays with the row stays with the slice. -/
theorem Own.as_row {w : World} {base : Nat} {p : Option Addr} {cap : Nat} {l : List α} (h : Own K w base p cap l) (hn : 0 < l.length) : ∃ g cs r, p = some ⟨g, 0, none⟩ ∧ base ≤ g ∧ Row w g K.t cs ∧ cs = K.all l ++ r ∧ ∀ w', Row w' g K.t cs → Own K w' base p cap l := by
  rcases h.own.2 with ⟨hv, hl⟩ | ⟨g, cap', cur, hv, hg, hh, hc, hm, hs, ht⟩
  · omega
  · obtain ⟨rfl, -, rfl⟩ : p = some ⟨g, 0, none⟩ ∧ l.length = l.length ∧ cap = cap' := by simpa using hv
    refine ⟨g, cur.toList, cur.toList.drop (l.length * K.n), rfl, hg, by rw [← Array.toArray_toList (xs := cur)] at hh; exact hh, ?_, fun w' hw => ⟨⟨h.own.1, .inr ⟨g, cap, cur, rfl, hg, by have := hw; unfold Row at this; rw [Array.toArray_toList] at this; exact this, hc, hm, hs, ht⟩⟩, h.ok⟩⟩
    rw [← ht, List.take_append_drop]
theorem Own.at {w : World} {base : Nat} {p : Option Addr} {cap : Nat} {l : List α} (F : K.Fit P) (h : Own K w base p cap l) : At K w p l := by
  by_cases hn : 0 < l.length
  · obtain ⟨g, cs, r, rfl, _, hr, e, _⟩ := h.as_row hn
    exact At.row F h.ok hr e
  · obtain rfl : l = [] := List.eq_nil_of_length_eq_zero (by omega)
    exact At.nil _ _
theorem Own.block {w w' : World} {base : Nat} {p : Option Addr} {cap : Nat} {l : List α} (h : Own K w base p cap l) (hb : ∀ g, bk p = some g → g < w.heap.size → w'.heap[g]? = w.heap[g]?) : Own K w' base p cap l := by
  refine ⟨⟨h.own.1, ?_⟩, h.ok⟩
  rcases h.own.2 with h2 | ⟨g, cap', cur, hv, hg, hh, r⟩
  · exact .inl h2
  · have hp : bk p = some g := by rw [← bk_own p l.length cap, hv]; rfl
    exact .inr ⟨g, cap', cur, hv, hg, by rw [hb g hp (Array.getElem?_eq_some_iff.1 hh).1]; exact hh, r⟩
theorem Own.below {w w' : World} {base : Nat} {p : Option Addr} {cap : Nat} {l : List α} (h : Own K w base p cap l) (hb : Below w.heap.size w w') : Own K w' base p cap l := h.block fun g _ hg => hb.block g hg
theorem Own.only {w w' : World} {base B : Nat} {p : Option Addr} {cap : Nat} {l : List α} (h : Own K w base p cap l) (ho : Only B w w') (hB : bk p ≠ some B) : Own K w' base p cap l := h.block fun g e hg => ho.block g hg (fun e2 => hB (by rw [e, e2]))
theorem Own.ge {w : World} {base : Nat} {p : Option Addr} {cap : Nat} {l : List α} (h : Own K w base p cap l) {g : Nat} (e : bk p = some g) : base ≤ g ∧ g < w.heap.size := by
  rcases h.own.2 with ⟨hv, hl⟩ | ⟨g', cap', cur, hv, hg, hh, _⟩
  · have : bk p = none := by rw [← bk_own p l.length cap, hv]; rfl
    rw [this] at e; cases e
  · have hp : bk p = some g' := by rw [← bk_own p l.length cap, hv]; rfl
    obtain rfl : g' = g := Option.some.inj (hp.symm.trans e)
    exact ⟨hg, (Array.getElem?_eq_some_iff.1 hh).1⟩
theorem lay_lay (cs vs us : List Value) (off : Nat) (h : off + vs.length + us.length ≤ cs.length) : lay (lay cs off vs) (off + vs.length) us = lay cs off (vs ++ us) := by
  have h1 : (cs.take off ++ vs).length = off + vs.length := by rw [List.length_append, List.length_take]; omega
  unfold lay
  rw [List.take_append_of_le_length (by omega), List.take_of_length_le (by omega), ← List.drop_drop, ← h1, List.drop_left' rfl, h1, List.drop_drop, List.length_append]
  simp only [List.append_assoc, Nat.add_assoc]
variable (K) in
def Kind.parts (l : List α) (k : Nat) : List (Nat × Value) :=
  match l with
  | [] => []
  | x :: r => (k, .agg (K.cs x).toArray) :: Kind.parts r (k + 1)
theorem fill_parts (F : K.Fit P) : ∀ (l : List α) (k : Nat) (cs : List Value), K.AllOk l → (k + l.length) * K.n ≤ cs.length → Instr.fill (fun i => some (i * K.n, K.n)) cs.toArray (K.parts l k) = some (lay cs (k * K.n) (K.all l)).toArray
  | [], k, cs, _, h => by
    unfold Kind.parts
    rw [fill_done, all_nil]
    unfold lay
    simp
  | x :: l, k, cs, ho, h => by
    have hx := F.len x (AllOk.head ho)
    have h2 : (k + (l.length + 1)) * K.n = k * K.n + (l.length * K.n + K.n) := by rw [Nat.add_mul, Nat.succ_mul]
    rw [List.length_cons, h2] at h
    have h3 := all_len F l (AllOk.tail ho)
    unfold Kind.parts
    rw [fill_step _ cs k (k * K.n) K.n _ (K.cs x) _ rfl rfl hx (by omega), fill_parts F l (k + 1) _ (AllOk.tail ho) (by rw [lay_length _ _ _ (by omega), Nat.add_mul, Nat.succ_mul]; omega), all_cons,
      show (k + 1) * K.n = k * K.n + (K.cs x).length by rw [hx, Nat.succ_mul], lay_lay _ _ _ _ (by omega)]
theorem run_sizeOf_kind (F : K.Fit P) (w : World) : (sizeOf K.t).run P w = .ok K.n w := by
  obtain ⟨i, hi, _, hs, _⟩ := F.parts
  simp [sizeOf, typeInfo, hi, hs]
theorem run_lit (F : K.Fit P) (l : List α) (ho : K.AllOk l) (hn : l.length ≤ 1024) (w : World) : (Instr.buildSlice K.ts l.length (K.parts l 0).toArray).run P w = .ok (.slice (some ⟨w.heap.size, 0, none⟩) l.length l.length) (w.alloc (.cells (K.all l).toArray K.t)) := by
  obtain ⟨i, hi, hz, hs, _⟩ := F.parts
  have hb : ¬ (l.length * K.n > 2 ^ 24) := by
    have := Nat.mul_le_mul hn F.small
    have e : (2 : Nat) ^ 24 = 16777216 := by decide
    rw [e]; omega
  have hf : ∀ zs : Array Value, Instr.fill (fun i => some (i * K.n, K.n)) ((Array.range (l.length * K.n)).map fun k => zs[k % zs.size]!) (K.parts l 0) = some (K.all l).toArray := fun zs => by
    have e : ((Array.range (l.length * K.n)).map fun k => zs[k % zs.size]!) = (((Array.range (l.length * K.n)).map fun k => zs[k % zs.size]!).toList).toArray := by rw [Array.toArray_toList]
    have hl : (((Array.range (l.length * K.n)).map fun k => zs[k % zs.size]!).toList).length = l.length * K.n := by simp
    rw [e, fill_parts F l 0 _ ho (by rw [hl, Nat.zero_add]; exact Nat.le_refl _), Nat.zero_mul, lay_all _ _ (by rw [hl, all_len F l ho])]
  have hzv : (zeroValue K.t).run P w = .ok (.agg (K.cs K.z).toArray) w := by
    simp [zeroValue, typeInfo, hi, hz]
  unfold Instr.buildSlice
  simp only [Sem.run_bind, run_underlying F.und, Result.andThen_ok, run_sizeOf_kind F, if_neg hb, Sem.run_pure]
  by_cases h0 : l.length * K.n = 0
  · rw [if_pos h0]
    simp only [Sem.run_bind, Sem.run_pure, Result.andThen_ok, hf]
    simp [newRow]
  · rw [if_neg h0]
    simp only [Sem.run_bind, hzv, Sem.run_pure, Result.andThen_ok, hf]
    simp [newRow]
section
variable {ops : Array Oper} {rest : List Oper} {o : Oper} {a : Act} {w : World} {Q : Exit → Act → World → Prop}
theorem run_op_lit (F : K.Fit P) (l : List α) (ok : K.AllOk l) (hn : l.length ≤ 1024) (n : Nat) (parts : Array (Nat × Operand)) (ho : o.op = .buildSlice K.ts n parts) (hl : n = l.length) (hpv : (parts.map fun (i, y) => (i, a.eval y)) = (K.parts l 0).toArray) :
    (execOp a.eval o).run P w = .ok (.value (.slice (some ⟨w.heap.size, 0, none⟩) n n)) (w.alloc (.cells (K.all l).toArray K.t)) := by
  subst hl
  unfold execOp
  simp only [ho, hpv, Sem.run_bind, run_lit F l ok hn, Result.andThen_ok, Sem.run_pure]
/-- '[]T{x, ..}'. -/
theorem arm_lit (hgd : o.guard = none) (F : K.Fit P) (l : List α) (ok : K.AllOk l) (hn : l.length ≤ 1024) (n : Nat) (parts : Array (Nat × Operand)) (ho : o.op = .buildSlice K.ts n parts) (hl : n = l.length) (hpv : (parts.map fun (i, y) => (i, a.eval y)) = (K.parts l 0).toArray)
    (h : ∀ b w2, Hid (b = w.heap.size) → Row w2 b K.t (K.all l) → New w w2 → wpList P ops Q rest (a.put o.dst (.slice (some ⟨b, 0, none⟩) n n)) w2) : wpList P ops Q (o :: rest) a w := by
  refine wpList_plain hgd fun X hX => ?_
  unfold Oper.wp
  rw [run_op_lit F l ok hn n parts ho hl hpv]
  exact hX _ _ (h _ _ rfl (heap_alloc_new _ _) (new_alloc _ _))
theorem run_op_head (F : K.Fit P) (x hi : Operand) (ho : o.op = .slice K.ts x none (some hi) none) (p : Option Addr) (len cap : Nat) (hx : a.eval x = .slice p len cap) (k1 : IntKind) (i : Int) (hhi : a.eval hi = .int k1 i) (m : Nat) (hm : i = (m : Int)) (hmc : m ≤ cap) (w : World) : (execOp a.eval o).run P w = .ok (.value (.slice p m cap)) w := by
  subst hm
  obtain ⟨ie, hq, _, hs, _⟩ := F.parts
  have hr : (Instr.sliceAt K.ts (.slice p len cap) none (some (.int k1 (m : Int))) none).run P w = .ok (.slice p m cap) w := by
    have h1 : (m : Int) ≤ (cap : Int) := by omega
    have h2 : (if cap = 0 then p else p.map (·.add 0)) = p := by rw [map_add_zero]; split <;> rfl
    simp [Instr.sliceAt, Instr.slice, run_underlying F.und, Instr.sliceBounds, Instr.sliceBound, asIntOf, h1, hmc, sizeOf, typeInfo, hq, hs, h2]
  unfold execOp
  simp only [ho, hx, Option.map_some, Option.map_none, hhi, Sem.run_bind, hr, Result.andThen_ok, Sem.run_pure]
theorem run_op_index (F : K.Fit P) (x ix : Operand) (ho : o.op = .indexAddr K.ts x ix) (g off len cap : Nat) (hx : a.eval x = .slice (some ⟨g, off, none⟩) len cap) (kk : IntKind) (i : Int) (hi : a.eval ix = .int kk i) (k : Nat) (hik : i = (k : Int)) (hk : k < len) (w : World) : (execOp a.eval o).run P w = .ok (.value (.pointer (some ⟨g, off + k * K.n, none⟩))) w := by
  subst hik
  obtain ⟨ie, hq, _, hs, _⟩ := F.parts
  have h3 : (⟨g, off, none⟩ : Addr).add (k * K.n) = ⟨g, off + k * K.n, none⟩ := Addr.add_mid g off (k * K.n)
  unfold execOp
  simp [ho, hx, hi, Instr.indexAt, asIntOf, run_underlying F.und, sizeOf, typeInfo, hq, hs, hk, h3]
/-- 'append(s, x...)': where it comes to lie, and what it leaves. -/
theorem run_op_append (F : K.Fit P) (s x : Operand) (ho : o.op = .call { callee := .builtin .append, args := #[s, x], argTypes := #[K.ts, K.ts] }) (base : Nat) (p : Option Addr) (n cap : Nat) (l : List α) (hn : n = l.length)
    (hs : a.eval s = .slice p n cap) (hown : Own K w base p cap l) (q : Option Addr) (m c : Nat) (ys : List α) (hx : a.eval x = .slice q m c) (hm : m = ys.length) (hy : At K w q ys) (hne : 0 < ys.length) (hz : l.length + ys.length ≤ 1000000) (hb : base ≤ w.heap.size) :
    ∃ p' cap' w', (execOp a.eval o).run P w = .ok (.value (.slice p' (l ++ ys).length cap')) w' ∧ Own K w' base p' cap' (l ++ ys) ∧ Below base w w' ∧ (∀ g, g < w.heap.size → bk p ≠ some g → w'.heap[g]? = w.heap[g]?) ∧ (bk p' = bk p ∨ bk p' = some w.heap.size) := by
  subst hm hn
  obtain ⟨i0, hi, hz0, hz1, hz2⟩ := F.parts
  obtain ⟨g, go, rfl, hg, _⟩ := hy.at_ 0 _ (List.getElem?_eq_getElem hne)
  have hnews : ∀ j u, (K.all ys)[j]? = some u → w.cell? ((⟨g, go, none⟩ : Addr).add j) = some u := fun j u hj => by
    obtain ⟨k, y, j', h1, h2, rfl⟩ := all_cell F ys hy.ok j u hj
    obtain ⟨g', o', e, _, hr⟩ := hy.at_ k y h1
    obtain ⟨rfl, rfl, -⟩ : g = g' ∧ go = o' ∧ True := by simpa using e
    rw [Addr.add_mid, ← Nat.add_assoc]
    exact hr j' u h2
  have hby : (l.length + ys.length) * K.bytes ≤ 140737488355328 := by
    have := Nat.mul_le_mul hz F.bsmall
    omega
  obtain ⟨v', w', hr, hown', hgrow, _, hat⟩ := run_append_own_at (P := P) w base K.ts o.type K.t i0 (.agg (K.cs K.z).toArray) K.n K.bytes F.und hi hz0 hz1 hz2 (by rw [show (Value.agg (K.cs K.z).toArray).cells = (K.cs K.z).toArray from rfl, List.size_toArray, F.len _ F.zok]) F.pos _ _ _ hown.own ⟨g, go, none⟩ ys.length c (K.all ys) (all_len F ys hy.ok) hnews (all_ones F ys) (by unfold maxLen; omega) hby hb
  rw [← all_append, ← List.length_append] at hown'
  obtain ⟨p', cap', hv, hO⟩ := Own.of_slice hown' (AllOk.append hown.ok hy.ok)
  subst hv
  rw [bk_own, bk_own] at hat
  rw [bk_own] at hgrow
  refine ⟨p', cap', w', ?_, hO, ⟨hgrow.os, hgrow.tape, hgrow.output, hgrow.size, fun k hk => hgrow.block k (by omega) (fun e => ?_)⟩, fun k hk hne => hgrow.block k hk (fun e => hne e.symm), hat⟩
  · unfold execOp
    simp only [ho, resolve, invoke, builtin, Sem.run_bind, Sem.run_pure, Result.andThen_ok, List.map_toArray, List.map_cons, List.map_nil, hs, hx, hr]
  · have := (hown.ge e.symm).1
    omega
theorem arm_append (hgd : o.guard = none) (F : K.Fit P) (s x : Operand) (ho : o.op = .call { callee := .builtin .append, args := #[s, x], argTypes := #[K.ts, K.ts] }) (base : Nat) (p : Option Addr) (n cap : Nat) (l : List α) (hn : n = l.length)
    (hs : a.eval s = .slice p n cap) (hown : Own K w base p cap l) (q : Option Addr) (m c : Nat) (ys : List α) (hx : a.eval x = .slice q m c) (hm : m = ys.length) (hy : At K w q ys) (hne : 0 < ys.length) (hz : l.length + ys.length ≤ 1000000) (hb : base ≤ w.heap.size)
    (h : ∀ p' cap' w', Own K w' base p' cap' (l ++ ys) → Below base w w' → Hid (∀ g, g < w.heap.size → bk p ≠ some g → w'.heap[g]? = w.heap[g]?) → Hid (bk p' = bk p ∨ bk p' = some w.heap.size) → wpList P ops Q rest (a.put o.dst (.slice p' (l ++ ys).length cap')) w') : wpList P ops Q (o :: rest) a w := by
  refine wpList_plain hgd fun X hX => ?_
  obtain ⟨p', cap', w', hr, h1, h2, h3, h4⟩ := run_op_append F s x ho base p n cap l hn hs hown q m c ys hx hm hy hne hz hb
  unfold Oper.wp
  rw [hr]
  exact hX _ _ (h p' cap' w' h1 h2 (Lib.hid h3) (Lib.hid h4))
end
end
end Go.Proofs.YtnjmocobncncdaaDoor.Sl

/-
  Slices of whole values, more of them: a value read, the length, 'append' of no value or of some; two that change places. Over whatever program.
-/
namespace Go.Proofs.YtnjmocobncncdaaDoor.Sl
open Go.RowKit Go.Proofs.YtnjmocobncncdaaDoor.Mem
set_option linter.unusedVariables false
set_option linter.unusedSimpArgs false

theorem at_range {α : Type} {K : Kind α} {w : World} {g o : Nat} {l : List α} (h : At K w (some ⟨g, o, none⟩) l) {k : Nat} {x : α} (hk : l[k]? = some x) : w.rangeAt g (o + k * K.n) (K.cs x) := by
  obtain ⟨g', o', e, _, hr⟩ := h.at_ k x hk
  obtain ⟨rfl, rfl⟩ : g = g' ∧ o = o' := by simpa using e
  exact hr
section
variable {α : Type} {K : Kind α} {P : Program} {o : Oper} {a : Act}
theorem run_op_lenK (x : Operand) (t e : TypeId) (ho : o.op = .call { callee := .builtin .len, args := #[x], argTypes := #[t] }) (hu : P.underlying t = some (.slice e)) (p : Option Addr) (n c : Nat) (hx : a.eval x = .slice p n c) (w : World) :
    (execOp a.eval o).run P w = .ok (.value (.int .i64 (n : Int))) w := by
  unfold execOp
  simp [ho, resolve, invoke, builtin, hx, Builtin.len_, run_underlying hu]
  rfl
/-- 'append(s, x...)' of no value. -/
theorem run_op_append0 (F : K.Fit P) (s x : Operand) (ho : o.op = .call { callee := .builtin .append, args := #[s, x], argTypes := #[K.ts, K.ts] }) (p : Option Addr) (n cap : Nat) (hc : n ≤ cap)
    (hs : a.eval s = .slice p n cap) (q : Option Addr) (c : Nat) (hx : a.eval x = .slice q 0 c) (w : World) : (execOp a.eval o).run P w = .ok (.value (.slice p n cap)) w := by
  obtain ⟨i0, hi, hz0, hz1, hz2⟩ := F.parts
  have hr : (Builtin.append_ #[K.ts, K.ts] o.type #[.slice p n cap, .slice q 0 c]).run P w = .ok (.slice p n cap) w := by
    cases p <;> cases q <;> simp [Builtin.append_, run_underlying F.und, sizeOf, typeInfo, hi, Builtin.lenOf, Builtin.firstCells, loadCells, loadCellsFrom, storeCells, hc]
  unfold execOp
  simp only [ho, resolve, invoke, builtin, Sem.run_bind, Sem.run_pure, Result.andThen_ok, List.map_toArray, List.map_cons, List.map_nil, hs, hx, hr]
variable {w : World}
variable {ops : Array Oper} {Q : Exit → Act → World → Prop}
variable {rest : List Oper}
/-- 'append(s, x...)' of no value or of some. -/
theorem arm_appendQ (hgd : o.guard = none) (F : K.Fit P) (s x : Operand) (ho : o.op = .call { callee := .builtin .append, args := #[s, x], argTypes := #[K.ts, K.ts] }) (base : Nat) (p : Option Addr) (n cap : Nat) (l : List α) (hn : n = l.length)
    (hs : a.eval s = .slice p n cap) (hown : Sl.Own K w base p cap l) (q : Option Addr) (m c : Nat) (ys : List α) (hx : a.eval x = .slice q m c) (hm : m = ys.length) (hy : At K w q ys) (hz : l.length + ys.length ≤ 1000000) (hb : base ≤ w.heap.size)
    (h : ∀ p' cap' w', Sl.Own K w' base p' cap' (l ++ ys) → Below base w w' → Hid (∀ g, g < w.heap.size → bk p ≠ some g → w'.heap[g]? = w.heap[g]?) → Hid (bk p' = bk p ∨ bk p' = some w.heap.size) → wpList P ops Q rest (a.put o.dst (.slice p' (l ++ ys).length cap')) w') : wpList P ops Q (o :: rest) a w := by
  by_cases hne : 0 < ys.length
  · exact Sl.arm_append hgd F s x ho base p n cap l hn hs hown q m c ys hx hm hy hne hz hb h
  · obtain rfl : ys = [] := List.eq_nil_of_length_eq_zero (by omega)
    subst hm hn
    have := h p cap w
    rw [List.append_nil] at this
    refine wpList_plain hgd fun X hX => ?_
    unfold Oper.wp
    rw [run_op_append0 F s x ho p l.length cap hown.cap hs q c hx w]
    exact hX _ _ (this hown (Below.refl _ _) (Lib.hid fun _ _ _ => rfl) (Lib.hid (.inl rfl)))
end
section
variable {α : Type} {K : Kind α} {P : Program} {H : Type} {enc : TypeId × Value → H} {w : World} {base : Nat} {spare : Nat → Bool} {held : Bool} {fuel : Nat} {cs : List Value} {x : DataW H × List MemPlace}
end
section
variable {α : Type} {K : Kind α} {P : Program}
theorem lay_all_set (F : K.Fit P) : ∀ (l : List α) (r : List Value) (i : Nat) (b : α), K.AllOk l → K.ok b → i < l.length → lay (K.all l ++ r) (i * K.n) (K.cs b) = K.all (l.set i b) ++ r
  | [], _, _, _, _, _, h => by simp at h
  | x :: l, r, 0, b, ho, hb, _ => by
    have hx := F.len x (AllOk.head ho)
    have hb' := F.len b hb
    rw [List.set_cons_zero, all_cons, all_cons, Nat.zero_mul, List.append_assoc, List.append_assoc]
    unfold lay
    rw [List.take_zero, List.nil_append, Nat.zero_add, hb', ← hx, List.drop_left]
  | x :: l, r, i + 1, b, ho, hb, h => by
    have hx := F.len x (AllOk.head ho)
    have ih := lay_all_set F l r i b (AllOk.tail ho) hb (by simpa using h)
    rw [List.set_cons_succ, all_cons, all_cons, List.append_assoc, List.append_assoc, ← ih, Nat.succ_mul, Nat.add_comm (i * K.n) K.n]
    unfold lay
    have h1 : (K.cs x ++ (K.all l ++ r)).take (K.n + i * K.n) = K.cs x ++ (K.all l ++ r).take (i * K.n) := by rw [← hx, List.take_length_add_append]
    have h2 : (K.cs x ++ (K.all l ++ r)).drop (K.n + i * K.n + (K.cs b).length) = (K.all l ++ r).drop (i * K.n + (K.cs b).length) := by rw [Nat.add_assoc, ← hx, List.drop_length_add_append]
    rw [h1, h2]
    simp only [List.append_assoc]
theorem allOk_set {l : List α} (h : K.AllOk l) {b : α} (k : K.ok b) (i : Nat) : K.AllOk (l.set i b) := fun x hx => by
  rcases List.mem_or_eq_of_mem_set hx with hx | rfl
  · exact h x hx
  · exact k
/-- 's[i] = b': what is written where, and what it leaves. -/
theorem Own.put {w : World} {base : Nat} {p : Option Addr} {cap : Nat} {l : List α} (F : K.Fit P) (h : Own K w base p cap l) {i : Nat} (hi : i < l.length) {b : α} (k : K.ok b) :
    ∃ g cs, p = some ⟨g, 0, none⟩ ∧ base ≤ g ∧ Row w g K.t cs ∧ i * K.n + (K.cs b).length ≤ cs.length ∧ ∀ w', Row w' g K.t (lay cs (i * K.n) (K.cs b)) → Own K w' base p cap (l.set i b) := by
  rcases h.own.2 with ⟨hv, hl⟩ | ⟨g, cap', cur, hv, hg, hh, hc, hm, hs, ht⟩
  · omega
  · obtain ⟨rfl, -, rfl⟩ : p = some ⟨g, 0, none⟩ ∧ l.length = l.length ∧ cap = cap' := by simpa using hv
    have hal := all_len F l h.ok
    have hb := F.len b k
    have hmul : i * K.n + K.n ≤ l.length * K.n := by
      have := Nat.mul_le_mul_right K.n (show i + 1 ≤ l.length from hi)
      rw [Nat.succ_mul] at this
      exact this
    have hlen : l.length * K.n ≤ cur.toList.length := by
      have h1 := congrArg List.length ht
      rw [List.length_take, hal] at h1
      omega
    have hcs : cur.toList = K.all l ++ cur.toList.drop (l.length * K.n) := by rw [← ht, List.take_append_drop]
    refine ⟨g, cur.toList, rfl, hg, by rw [← Array.toArray_toList (xs := cur)] at hh; exact hh, by rw [hb]; omega, fun w' hw => ?_⟩
    have hlay : lay cur.toList (i * K.n) (K.cs b) = K.all (l.set i b) ++ cur.toList.drop (l.length * K.n) := by
      rw [← lay_all_set F l (cur.toList.drop (l.length * K.n)) i b h.ok k hi, ← hcs]
    have hal2 := all_len F (l.set i b) (allOk_set h.ok k i)
    rw [List.length_set] at hal2
    refine ⟨⟨by rw [List.length_set]; exact hal2, .inr ⟨g, cap, (lay cur.toList (i * K.n) (K.cs b)).toArray, by rw [List.length_set], hg, hw, by rw [List.length_set]; exact hc, hm, ?_, ?_⟩⟩, allOk_set h.ok k i⟩
    · rw [List.size_toArray, lay_length _ _ _ (by rw [hb]; omega)]
      rw [← Array.length_toList] at hs
      exact hs
    · show (lay cur.toList (i * K.n) (K.cs b)).take ((l.set i b).length * K.n) = K.all (l.set i b)
      rw [List.length_set, hlay, ← hal2, List.take_left]
end
end Go.Proofs.YtnjmocobncncdaaDoor.Sl
