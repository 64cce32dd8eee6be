import Derived.Test.YtnjmocobncncdaaGreatDoorMemAll
import Derived.Test.YtnjmocobncncdaaGreatDoorKeySeq
import Derived.Test.YtnjmocobncncdaaGreatDoorHashKey
import Derived.Test.YtnjmocobncncdaaGreatDoorSlisAll
import Derived.Test.YtnjmocobncncdaaGreatDoorEpoAll
import Derived.RangeFuncGives
import Derived.Maps.AppendAt
import Derived.Shelf.AbstractIn
import Derived.Shelf.SlIter.Collect
import Derived.Test.YtnjmocobncncdaaGreatDoorOrdDrawn
import Derived.Test.YtnjmocobncncdaaGreatDoorFoot
import Derived.Test.YtnjmocobncncdaaGreatDoorLast
import Derived.Test.YtnjmocobncncdaaGreatDoorCmp
import Derived.Shelf.SlSortCmp.WholeK
import Derived.Shelf.SlSortCmp.NoneTotal
import Derived.Shelf.SlGeneric
import Derived.Ground.SlsfProg
/-
  What is kept, by rising keys, over lists: what is laid, what is given up, what stays; where none is pinned the greatest stay, in whatever order they came. No program: v = a key's value, d = a digest.
-/
namespace Go.Proofs.YtnjmocobncncdaaGreatDoor.So
set_option linter.unusedVariables false
set_option linter.unusedSimpArgs false
set_option linter.unusedSectionVars false

section
variable {α δ : Type} [DecidableEq δ] (v : α → Nat) (d : α → δ)
/-- By rising keys. -/
def Rise (L : List α) : Prop := L.Pairwise fun a b => v a < v b
/-- Among the others, by its key. -/
def ins (x : α) : List α → List α
  | [] => [x]
  | y :: L => if v y < v x then y :: ins x L else x :: y :: L
def has (h : δ) (L : List α) : Prop := ∃ y ∈ L, d y = h
/-- One is given up: the first one but the pinned one. -/
def out (pin : Option δ) (L : List α) : Nat := if pin = (L.map d)[0]? then 1 else 0
def less (r : Nat) (pin : Option δ) (L : List α) : List α × Option α := if L.length ≤ r then (L, none) else (L.eraseIdx (out d pin L), L[out d pin L]?)
end
section
variable {α δ : Type} [DecidableEq δ] {v : α → Nat} {d : α → δ}
theorem ins_len (x : α) : ∀ L : List α, (ins v x L).length = L.length + 1
  | [] => rfl
  | y :: L => by
    unfold ins
    split
    · rw [List.length_cons, ins_len x L, List.length_cons]
    · rfl
theorem ins_mem {x z : α} : ∀ {L : List α}, z ∈ ins v x L ↔ z = x ∨ z ∈ L
  | [] => by simp [ins]
  | y :: L => by
    unfold ins
    split
    · rw [List.mem_cons, ins_mem (L := L), List.mem_cons]
      exact ⟨fun h => by rcases h with h | h | h; exact .inr (.inl h); exact .inl h; exact .inr (.inr h), fun h => by rcases h with h | h | h; exact .inr (.inl h); exact .inl h; exact .inr (.inr h)⟩
    · rw [List.mem_cons]
theorem ins_rise {x : α} : ∀ {L : List α}, Rise v L → (∀ y ∈ L, v y ≠ v x) → Rise v (ins v x L)
  | [], _, _ => List.pairwise_singleton ..
  | y :: L, h, hn => by
    have h1 : ∀ z ∈ L, v y < v z := fun z hz => List.rel_of_pairwise_cons h hz
    have h2 : Rise v L := h.of_cons
    have hy := hn y (by simp)
    unfold ins
    split
    · rename_i hlt
      refine List.pairwise_cons.2 ⟨fun z hz => ?_, ins_rise h2 fun z hz => hn z (by simp [hz])⟩
      rcases ins_mem.1 hz with rfl | hz
      · exact hlt
      · exact h1 z hz
    · rename_i hge
      refine List.pairwise_cons.2 ⟨fun z hz => ?_, h⟩
      rcases List.mem_cons.1 hz with rfl | hz
      · omega
      · have := h1 z hz; omega
/-- Rising; digests once; no more than there is room for; the pinned one is kept. -/
structure SOk (v : α → Nat) (d : α → δ) (r : Nat) (pin : Option δ) (L : List α) : Prop where
  up : Rise v L
  dg : L.Pairwise fun a b => d a ≠ d b
  len : L.length ≤ r
  two : 2 ≤ r
  pin : ∀ p, pin = some p → has d p L
theorem s_nil {r : Nat} (h : 2 ≤ r) : SOk v d r none [] := ⟨List.Pairwise.nil, List.Pairwise.nil, Nat.zero_le _, h, fun p h => by cases h⟩
theorem dg_ins {x : α} : ∀ {L : List α}, (L.Pairwise fun a b => d a ≠ d b) → ¬ has d (d x) L → (ins v x L).Pairwise fun a b => d a ≠ d b
  | [], _, _ => List.pairwise_singleton ..
  | y :: L, h, hn => by
    have h1 : ∀ z ∈ L, d y ≠ d z := fun z hz => List.rel_of_pairwise_cons h hz
    have hyx : d y ≠ d x := fun e => hn ⟨y, by simp, e⟩
    have hn' : ¬ has d (d x) L := fun ⟨z, hz, e⟩ => hn ⟨z, by simp [hz], e⟩
    unfold ins
    split
    · refine List.pairwise_cons.2 ⟨fun z hz => ?_, dg_ins h.of_cons hn'⟩
      rcases ins_mem.1 hz with rfl | hz
      · exact hyx
      · exact h1 z hz
    · refine List.pairwise_cons.2 ⟨fun z hz e => ?_, h⟩
      exact hn ⟨z, hz, e.symm⟩
/-- Laid, with room or without: rising yet, digests once. -/
structure SLaid (v : α → Nat) (d : α → δ) (r : Nat) (pin : Option δ) (L : List α) : Prop where
  up : Rise v L
  dg : L.Pairwise fun a b => d a ≠ d b
  len : L.length ≤ r + 1
  two : 2 ≤ r
  pin : ∀ p, pin = some p → has d p L
theorem SOk.laid {r : Nat} {pin : Option δ} {L : List α} (k : SOk v d r pin L) : SLaid v d r pin L := ⟨k.up, k.dg, by have := k.len; omega, k.two, k.pin⟩
theorem laid_pin {r : Nat} {pin : Option δ} {L : List α} (k : SLaid v d r pin L) {h : δ} (hh : has d h L) : SLaid v d r (some h) L := ⟨k.up, k.dg, k.len, k.two, fun p hp => by cases hp; exact hh⟩
theorem out_le (pin : Option δ) (L : List α) : out d pin L ≤ 1 := by unfold out; split <;> omega
theorem less_room {r : Nat} {pin : Option δ} {L : List α} (h : L.length ≤ r) : less d r pin L = (L, none) := if_pos h
theorem out_lt {r : Nat} {pin : Option δ} {L : List α} (k : SLaid v d r pin L) (h : ¬ L.length ≤ r) : out d pin L < L.length := by
  have := out_le (d := d) pin L
  have := k.two
  omega
theorem less_full {r : Nat} {pin : Option δ} {L : List α} (k : SLaid v d r pin L) (h : ¬ L.length ≤ r) : less d r pin L = (L.eraseIdx (out d pin L), some (L[out d pin L]'(out_lt k h))) := by
  unfold less
  rw [if_neg h, List.getElem?_eq_getElem (out_lt k h)]
/-- The one that is given up isn't the pinned one. -/
theorem out_pin {r : Nat} {pin : Option δ} {L : List α} (k : SLaid v d r pin L) (h : ¬ L.length ≤ r) : pin ≠ some (d (L[out d pin L]'(out_lt k h))) := by
  have hl : 2 < L.length := by have := k.two; omega
  have e0 : (L.map d)[0]? = some (d L[0]) := by rw [List.getElem?_eq_getElem (by rw [List.length_map]; omega), List.getElem_map]
  intro e
  by_cases hp : pin = some (d L[0])
  · have ho : out d pin L = 1 := by unfold out; rw [e0, if_pos hp]
    simp only [ho] at e
    exact List.pairwise_iff_getElem.1 k.dg 0 1 (by omega) (by omega) (by omega) (Option.some.inj (hp.symm.trans e))
  · have ho : out d pin L = 0 := by unfold out; rw [e0, if_neg hp]
    simp only [ho] at e
    exact hp e
theorem mem_erase {L : List α} {i : Nat} (hi : i < L.length) {z : α} (hz : z ∈ L) : z = L[i] ∨ z ∈ L.eraseIdx i := by
  obtain ⟨j, hj, rfl⟩ := List.mem_iff_getElem.1 hz
  by_cases e : j = i
  · subst e; exact .inl rfl
  · exact .inr (List.mem_eraseIdx_iff_getElem.2 ⟨j, hj, e, rfl⟩)
/-- What is kept, when one was given up where there was no room. -/
theorem less_ok {r : Nat} {pin : Option δ} {L : List α} (k : SLaid v d r pin L) : SOk v d r pin (less d r pin L).1 := by
  by_cases h : L.length ≤ r
  · rw [less_room h]
    exact ⟨k.up, k.dg, h, k.two, k.pin⟩
  · have ho := out_lt k h
    have hl := k.len
    rw [less_full k h]
    refine ⟨k.up.sublist (List.eraseIdx_sublist ..), k.dg.sublist (List.eraseIdx_sublist ..), ?_, k.two, fun p hp => ?_⟩
    · show (L.eraseIdx (out d pin L)).length ≤ r
      rw [List.length_eraseIdx, if_pos ho]; omega
    · obtain ⟨z, hz, e⟩ := k.pin p hp
      rcases mem_erase ho hz with q | q
      · exact absurd (hp.trans (congrArg some (e.symm.trans (congrArg d q)))) (out_pin k h)
      · exact ⟨z, q, e⟩
end
end Go.Proofs.YtnjmocobncncdaaGreatDoor.So

/-
  'slices.Collect(maps.Keys(m))' at maps keyed by digests: the iterator, what gathers, both calls. Over this seat's translation.
-/
namespace Go.Proofs.YtnjmocobncncdaaGreatDoor.So
open Go.RowKit Go.Maps Go.Proofs.YtnjmocobncncdaaGreatDoor.Mem Go.Proofs.YtnjmocobncncdaaGreatDoor.Bt Go.Proofs.YtnjmocobncncdaaGreatDoor.Km
open Go.Proofs.YtnjmocobncncdaaGreatDoor.Ep (H32 zh zh_ok Has h_len szH zH fitH allH)
open Go.Proofs.YtnjmocobncncdaaGreatDoor.Sl (Kind)
set_option linter.unusedVariables false
set_option linter.unusedSimpArgs false

section
variable {F : Fence} {n : Nat} {P : Program} {ops : Array Oper} {rest : List Oper} {o : Oper} {a : Act} {w w' : World} {Q : Exit → Act → World → Prop}
theorem inArm_value (hg : o.guard = none) (hc : ∀ c, o.op ≠ .defer c) (hn : o.about P w a.eval = none) (v : Value) (hr : (execOp a.eval o).run P w = .ok (.value v) w') (h : wpListIn F n P ops Q rest (a.put o.dst v) w') : wpListIn F n P ops Q (o :: rest) a w := by
  refine wpListIn_plain hg fun K hK => ?_
  unfold Oper.wpIn
  refine ⟨fun f hf => (by rw [hn] at hf; cases hf), ?_⟩
  rw [Oper.semAt_plain F _ _ hc, hr, Oper.uponIn_value]
  exact hK _ _ h
theorem inArm_skip (hg : o.guard = none) (hc : ∀ c, o.op ≠ .defer c) (hn : o.about P w a.eval = none) (hr : (execOp a.eval o).run P w = .ok .skip w') (h : wpListIn F n P ops Q rest (a.put o.dst undef) w') : wpListIn F n P ops Q (o :: rest) a w := by
  refine wpListIn_plain hg fun K hK => ?_
  unfold Oper.wpIn
  refine ⟨fun f hf => (by rw [hn] at hf; cases hf), ?_⟩
  rw [Oper.semAt_plain F _ _ hc, hr, Oper.uponIn_skip]
  exact hK _ _ h
theorem at_slotIn (d : Tmp) {op : Op} {ty : TypeId} {pos : String} {af : Array Edge} {gd : Option (Nat × Bool)} (h : wpListIn F n P ops Q (⟨some d, op, ty, pos, af, gd⟩ :: rest) a w) : wpListIn F n P ops Q (⟨some d, op, ty, pos, af, gd⟩ :: rest) a w := h
theorem at_storeIn {t : TypeId} {x y : Operand} {ty : TypeId} {pos : String} {af : Array Edge} {gd : Option (Nat × Bool)} (h : wpListIn F n P ops Q (⟨none, .store t x y, ty, pos, af, gd⟩ :: rest) a w) : wpListIn F n P ops Q (⟨none, .store t x y, ty, pos, af, gd⟩ :: rest) a w := h
theorem inArm_alloc (t : TypeId) (ho : o.op = .alloc t) (hg : o.guard = none) (zs : List Value) (hz : Mem.Zero P t zs) (h : ∀ b w2, Hid (b = w.heap.size) → Row w2 b t zs → New w w2 → wpListIn F n P ops Q rest (a.put o.dst (.pointer (some ⟨b, 0, none⟩))) w2) : wpListIn F n P ops Q (o :: rest) a w :=
  inArm_value hg (fun c h => by rw [ho] at h; cases h) (by simp [Oper.about, ho]) _ (run_op_alloc t ho zs hz) (h _ _ rfl (heap_alloc_new _ _) (new_alloc _ _))
theorem inArm_load (t : TypeId) (x : Operand) (ho : o.op = .load t x) (hg : o.guard = none) (b off : Nat) (hx : a.eval x = .pointer (some ⟨b, off, none⟩)) (vs : List Value) (hv : w.rangeAt b off vs) (hs : Sized P t vs.length) (h : wpListIn F n P ops Q rest (a.put o.dst (.agg vs.toArray)) w) : wpListIn F n P ops Q (o :: rest) a w :=
  inArm_value hg (fun c h => by rw [ho] at h; cases h) (by simp [Oper.about, ho]) _ (run_op_load t x ho b off hx vs hv hs) h
theorem inArm_store (t : TypeId) (x y : Operand) (ho : o.op = .store t x y) (hg : o.guard = none) (b off : Nat) (hx : a.eval x = .pointer (some ⟨b, off, none⟩)) (vs : List Value) (hy : a.eval y = .agg vs.toArray) (u : TypeId) (cs : List Value) (hr : Row w b u cs) (hf : off + vs.length ≤ cs.length) (h1 : OneCells vs) (hs : Sized P t vs.length)
    (h : ∀ w2, Row w2 b u (lay cs off vs) → Only b w w2 → Hid (w2.heap.size = w.heap.size) → wpListIn F n P ops Q rest (a.put o.dst undef) w2) : wpListIn F n P ops Q (o :: rest) a w :=
  inArm_skip hg (fun c h => by rw [ho] at h; cases h) (by simp [Oper.about, ho]) (run_op_store t x y ho b off hx vs hy u cs hr hf h1 hs) (h _ (row_setRow hr _) (Only.setRow _ _ _) (by simp [Hid]))
theorem New.grown (h : New w w') : w.grownBy w' none := ⟨h.below.os, h.below.tape, h.below.output, h.below.size, fun k hk _ => h.below.block k hk⟩
theorem grown_new {w2 : World} {X : Nat} (h : New w w2) (e : Hid (X = w.heap.size)) (g : Only X w2 w') : w.grownBy w' none :=
  ⟨g.os.trans h.below.os, g.tape.trans h.below.tape, g.output.trans h.below.output, Nat.le_trans h.below.size g.size, fun k hk _ => (g.block k (Nat.lt_of_lt_of_le hk h.below.size) (by have := e.out; omega)).trans (h.below.block k hk)⟩
theorem grown_walks (h : w.grownBy w' none) : KeepsWalks w w' := KeepsWalks.of_grownBy h (fun j o e _ => by cases e)
end

abbrev D32 := { x : List Nat // H32 x }
def encD (x : D32) : Value := hashV x.1
set_option maxRecDepth 100000 in
set_option maxHeartbeats 4000000 in
theorem keys1_in {β : Type} (U : β → Value) (L : List (List Nat × β)) (hL : ∀ p ∈ L, H32 p.1) (F : Fence) (n : Nat) (hf : F.fn 55) (hro : F.round = none) (hn : 1 ≤ n) (l Bm b : Nat) (J : List D32 → World → Prop)
    (hY : ∀ pre x W, J pre W → pre.length < L.length → YieldAt F (n - 1) Tryz.prog l #[encD x] W fun e W' => e = .returned (.bool true) ∧ J (pre ++ [x]) W' ∧ KeepsWalks W W')
    (W : World) (hJ : AbidesFrom W.heap.size J) (hm : W.cell? ⟨Bm, 0, none⟩ = some (.map (some b))) (hown : KMap W b hashV U hashOk L) (h0 : J [] W) :
    CallsIn F n Tryz.prog 55 #[.func (.yield l) #[] #[], .pointer (some ⟨Bm, 0, none⟩)] W fun e W' => (∃ v, e = .returned v) ∧ ∃ ss : List D32, (ss.map Subtype.val).Perm (L.map Prod.fst) ∧ J ss W' := by
  refine callsIn_of_wp Tryz.func55 rfl hf ?_ hro
  simp only [Tryz.ntmps55, List.size_toArray, List.length_cons, List.length_nil, Nat.reduceAdd, Nat.reduceSub, Array.replicate_succ, Array.replicate_zero, List.push_toArray, List.append_toArray, List.nil_append, List.cons_append]
  gi_wp2_with (first
    | (gi_at_range; refine inArm_range (kt := 32) (e := 87) rfl _ 76 rfl rfl hown (by kernel_rfl) ?_; intro w0 cnt0 hrg0 hg0 hs0)
    | gi_in)
  go_frame
  gi_loopw [3] (fun _ wr => ∃ (idx : List Nat) (cnt : Nat) (ss : List D32), KSeq wr b W.heap.size hashV U hashOk L idx cnt ∧ ss.map Subtype.val = pick L idx ∧ J ss wr)
    (fun _ wr => wr.rangeLeft b W.heap.size)
  case atStart =>
    exact ⟨[], _, [], hrg0, rfl, hJ [] W w0 none h0 hg0 (fun r e => by cases e)⟩
  case round =>
    obtain ⟨idx, cnt, ss, hrg, hpk, hJs⟩ := hrel
    have hsl : ss.length = idx.length := by have := congrArg List.length hpk; rw [List.length_map, pick_len hrg.low] at this; exact this
    gi_wp2_with (first
      | (gi_at_next; refine inArm_next rfl _ rfl rfl hrg ?_ ?_)
      | gi_in)
    · -- nothing is left
      intro hall
      gi_wp2
      go_end0
      exact ⟨⟨_, rfl⟩, ss, by rw [hpk]; exact pick_perm hrg.low hrg.once hall, hJs⟩
    · -- an entry has come
      intro i pk pv w2 cnt2 hi hni hrg2 hlt hg2 hs2 hen
      have hp : H32 pk := hL (pk, pv) (List.mem_of_getElem? hi)
      have hJ2 : J ss w2 := hJ ss wr w2 (some W.heap.size) hJs hg2 (fun r e => by cases e; exact ⟨Nat.le_refl _, hrg.walk⟩)
      have hlen : ss.length < L.length := by rw [hsl]; exact once_lt hrg.low hrg.once (List.getElem?_eq_some_iff.1 hi).1 hni
      clear hs2
      gi_wp2_with (first
        | ((with_reducible refine at_slotIn 3 ?_); refine inArm_alloc 32 rfl rfl (u8s zh) zH ?_; intro X w3 Xe rX nX)
        | ((with_reducible refine at_storeIn ?_); refine inArm_store 32 _ _ rfl rfl X 0 rfl (u8s pk) rfl _ _ rX (fitH hp) (u8s_one _) (szH hp) ?_; intro w4 rX4 oX sX)
        | ((with_reducible refine at_slotIn 11 ?_); refine inArm_load 32 _ rfl rfl X 0 rfl (u8s pk) ((Has.refl _).range (rX4.congr (allH hp))) (szH hp) ?_; have hg24 := grown_new nX Xe oX; have hJ4 : J ss w4 := hJ ss w2 w4 none hJ2 hg24 (fun r e => by cases e); have hrg4 := hrg2.of_walks (grown_walks hg24); obtain ⟨fn, tmps, assign, body, hy, hR⟩ := hY ss ⟨pk, hp⟩ w4 hJ4 hlen; clear hrg2 hJ2 rX nX oX hg24 hen; dsimp only [encD, hashV] at hy))
      refine hR.mono ?_
      rintro e W3 ⟨rfl, hJ3, hk3⟩
      gi_wp2
      have hrg3 := hrg4.of_walks hk3
      go_roundw
      case rel => exact ⟨_, cnt2, ss ++ [⟨pk, hp⟩], hrg3, by rw [List.map_append, hpk, pick_one hi]; rfl, hJ3⟩
      case measure => rw [hrg3.left_eq, hrg.left_eq]; exact hlt
theorem keys_gives {β : Type} (U : β → Value) (L : List (List Nat × β)) (hL : ∀ p ∈ L, H32 p.1) (F : Fence) (n : Nat) (hf : F.fn 55) (hro : F.round = none) (hn : 1 ≤ n) (Bm b : Nat) (w : World) (hBm : Bm < w.heap.size)
    (hm : w.cell? ⟨Bm, 0, none⟩ = some (.map (some b))) (hown : KMap w b hashV U hashOk L) :
    SeqGives F n Tryz.prog 55 #[.pointer (some ⟨Bm, 0, none⟩)] encD (fun ss : List D32 => (ss.map Subtype.val).Perm (L.map Prod.fst)) L.length w := fun l J W hW hJ hY h0 =>
  keys1_in U L hL F n hf hro hn l Bm b J hY W hJ ((hW.cell (p := ⟨Bm, 0, none⟩) hBm).trans hm) (hown.old hW) h0
set_option maxHeartbeats 1000000 in
theorem keys_in (F : Fence) (n : Nat) (hf : F.fn 40) (hro : F.round = none) (mb : Option Nat) (w : World) :
    CallsIn F n Tryz.prog 40 #[.map mb] w fun e w' => e = .returned (.func (.func 55) #[] #[.pointer (some ⟨w.heap.size, 0, none⟩)]) ∧ w' = w.alloc (.cells #[.map mb] 76) := by
  refine callsIn_of_wp Tryz.func40 rfl hf ?_ hro
  simp only [Tryz.ntmps40, List.size_toArray, List.length_cons, List.length_nil, Nat.reduceAdd, Nat.reduceSub, Array.replicate_succ, Array.replicate_zero, List.push_toArray, List.append_toArray, List.nil_append, List.cons_append]
  gi_wp2
  go_ret
  exact ⟨rfl, rfl⟩
end Go.Proofs.YtnjmocobncncdaaGreatDoor.So

/-
  slices.AppendSeq and slices.Collect of digests, against whatever iterator. Over this seat's translation.
-/
namespace Go.Proofs.YtnjmocobncncdaaGreatDoor.So
open Go.RowKit Go.Maps Go.Proofs.YtnjmocobncncdaaGreatDoor.Mem Go.Proofs.YtnjmocobncncdaaGreatDoor.Bt Go.Proofs.YtnjmocobncncdaaGreatDoor.Km
open Go.Proofs.YtnjmocobncncdaaGreatDoor.Ep (H32 zh zh_ok Has h_len szH zH fitH allH)
open Go.Proofs.YtnjmocobncncdaaGreatDoor.Sl (Kind)
set_option linter.unusedVariables false
set_option linter.unusedSimpArgs false

abbrev kD : Kind (List Nat) := ⟨u8s, H32, zh, 32, 32, 91, 32⟩
theorem fD : kD.Fit Tryz.prog where
  len := fun x h => h_len h
  one := fun x => u8s_one x
  zok := zh_ok
  pos := by decide
  small := by decide
  bsmall := by decide
  und := by kernel_rfl
  row := ⟨.array 32 5, by kernel_rfl, rfl⟩
  info := by kernel_rfl
abbrev dl (ss : List D32) : List (List Nat) := ss.map Subtype.val
theorem dl_ok (ss : List D32) : kD.AllOk (dl ss) := fun x hx => by
  obtain ⟨y, _, rfl⟩ := List.mem_map.1 hx
  exact y.2
def apAssign : Code := (Code.region 2 #[{ dst := some 5, op := Op.alloc 32, type := 0, pos := "iter.go:51", after := #[], guard := none }, { dst := none, op := Op.store 32 (Operand.tmp 5) (Operand.tmp 7), type := 0, pos := "iter.go:51", after := #[{ on := 0, ground := Ground.data }, { on := 0, ground := Ground.phase }], guard := none }] false)
def apBody : Code := (Code.block 1 (Code.region 3 #[{ dst := some 8, op := Op.load 91 (Operand.tmp 2), type := 91, pos := "iter.go:52", after := #[], guard := none }, { dst := some 9, op := Op.load 32 (Operand.tmp 5), type := 32, pos := "iter.go:52", after := #[], guard := none }, { dst := some 10, op := Op.buildSlice 91 1 #[(0, Operand.tmp 9)], type := 91, pos := "iter.go:52", after := #[{ on := 1, ground := Ground.data }], guard := none }, { dst := some 11, op := Op.call { callee := Callee.builtin Builtin.append, args := #[Operand.tmp 8, Operand.tmp 10], argTypes := #[91, 91] }, type := 91, pos := "iter.go:52", after := #[{ on := 0, ground := Ground.data }, { on := 2, ground := Ground.data }], guard := none }, { dst := none, op := Op.store 91 (Operand.tmp 2) (Operand.tmp 11), type := 0, pos := "iter.go:52", after := #[{ on := 3, ground := Ground.data }, { on := 3, ground := Ground.chain }, { on := 0, ground := Ground.phase }, { on := 1, ground := Ground.phase }, { on := 2, ground := Ground.phase }, { on := 3, ground := Ground.phase }], guard := none }] false))
def apRec (fn : FuncId) (sv : Value) (Bs D : Nat) (st : LoopState) (pend : Option Code) : Loop :=
  { state := st, pending := pend, fn, tmps := #[.slice none 0 0, sv, .pointer (some ⟨Bs, 0, none⟩), undef, .slice none 0 0, undef, sv, undef, undef, undef, undef, undef, undef], params := #[7], assign := apAssign, body := apBody, defers := D }
/-- Between two rounds. -/
structure ApAt (w0 : World) (fn : FuncId) (sv : Value) (Bs l D : Nat) (ss : List D32) (W : World) : Prop where
  box : ∃ v, W.heap[Bs]? = some (.cells #[v] 91 (0, 0)) ∧ W.ownsRow w0.heap.size 32 32 v ss.length (kD.all (dl ss)) ∧ (v = .slice none 0 0 ↔ ss = [])
  L : W.heap[l]? = some (.loop (apRec fn sv Bs D .ready none))
  K : W.heap[D]? = some (.deferred (some []))
  below : Below w0.heap.size w0 W
theorem ap_abides (w0 : World) (fn : FuncId) (sv : Value) (Bs l D B : Nat) (hB : w0.heap.size ≤ B) : AbidesFrom B (ApAt w0 fn sv Bs l D) := fun s W W' row h hg hrow => by
  have hrow' : ∀ r, row = some r → ∃ o : Obj, W.heap[r]? = some o ∧ o.isWalk = true := fun r e => (hrow r e).2
  obtain ⟨v, hv, hr, hn⟩ := h.box
  exact ⟨⟨v, (grownBy_keeps hg hrow' hv rfl).trans hv, ownsRow_abides_a hr hg hrow', hn⟩, (grownBy_keeps hg hrow' h.L rfl).trans h.L, (grownBy_keeps hg hrow' h.K rfl).trans h.K,
    h.below.grown hg h.below.size (fun k e => Nat.le_trans hB (hrow k e).1)⟩
theorem hneS : (91 : TypeId) ≠ 32 := by decide
theorem cells_at {w : World} {b : Nat} {xs : List Value} {t : TypeId} (h : Row w b t xs) : ∀ (j : Nat) (u : Value), xs[j]? = some u → w.cell? ((⟨b, 0, none⟩ : Addr).add j) = some u := fun j u hj => by
  rw [Addr.add_mid, Nat.zero_add]; exact h.cell hj
theorem grown_keep {w w' : World} {row : Option Nat} (hg : w.grownBy w' row) {b : Nat} {o : Obj} (h : w.heap[b]? = some o) (hn : some b ≠ row) : w'.heap[b]? = some o := (hg.block b (Array.getElem?_eq_some_iff.1 h).1 hn).trans h

set_option maxRecDepth 100000 in
set_option maxHeartbeats 4000000 in
theorem apYield (F : Fence) (m : Nat) (w0 : World) (fn : FuncId) (hfn : F.fn fn) (sv : Value) (Bs l D : Nat) (hBl : Bs ≠ l) (hDl : D ≠ l) (hDB : D ≠ Bs) (h0B : w0.heap.size ≤ Bs) (h0l : w0.heap.size ≤ l)
    (N : Nat) (hN : N ≤ maxLen) (hNb : N * 32 ≤ 140737488355328) (ss : List D32) (x : D32) (W : World) (h : ApAt w0 fn sv Bs l D ss W) (hlen : ss.length < N) :
    YieldAt F m Tryz.prog l #[encD x] W fun e W' => e = .returned (.bool true) ∧ ApAt w0 fn sv Bs l D (ss ++ [x]) W' ∧ KeepsWalks W W' := by
  obtain ⟨i0, hi, hz0, hz1, hz2⟩ := fD.parts
  obtain ⟨v, hv, hrow, _⟩ := h.box
  obtain ⟨x, hx⟩ := x
  refine ⟨fn, #[.slice none 0 0, sv, .pointer (some ⟨Bs, 0, none⟩), undef, .slice none 0 0, undef, sv, encD ⟨x, hx⟩, undef, undef, undef, undef, undef], apAssign, apBody, by simpa [apRec] using run_yield (P := Tryz.prog) (args := #[encD ⟨x, hx⟩]) h.L rfl, roundIn_of_wpIn hfn ?_⟩
  have hl : l < W.heap.size := (Array.getElem?_eq_some_iff.1 h.L).1
  have hhL := h.L
  have hhK := h.K
  have hbe := h.below
  clear h
  unfold apAssign
  dsimp only [encD, hashV]
  gi_wp2_with (first
    | ((with_reducible refine at_slotIn 5 ?_); refine inArm_alloc 32 rfl rfl (u8s zh) zH ?_; intro X w3 Xe rX nX)
    | ((with_reducible refine at_storeIn ?_); refine inArm_store 32 _ _ rfl rfl X 0 rfl (u8s x) rfl _ _ rX (fitH hx) (u8s_one _) (szH hx) ?_; intro w4 rX4' oX sX)
    | (rw [Oper.semAt_eq _ _ _ (fun c h => by cases h)]; go_simp; try go_bits))
  have rX4 : Row w4 X 32 (u8s x) := rX4'.congr (allH hx)
  have g04 := grown_new nX Xe oX
  have hXl : X ≠ l := by have := Xe.out; omega
  have hv4 := grown_keep g04 hv (by simp)
  have hK4 := grown_keep g04 hhK (by simp)
  have hL4 := grown_keep g04 hhL (by simp)
  have hrow4 := hrow.kept g04 (by cases v.ownBlock <;> simp)
  have hb4 : Below w0.heap.size w0 w4 := hbe.grown g04 hbe.size (fun k e => by cases e)
  have hk4 : KeepsWalks W w4 := grown_walks g04
  clear rX nX oX rX4' g04 hv hhK hhL hrow hbe Xe sX hl
  have hl4 : l < w4.heap.size := (Array.getElem?_eq_some_iff.1 hL4).1
  have hbr := run_beginRound (P := Tryz.prog) hL4 rfl
  obtain ⟨W5, hW5⟩ : ∃ W5, w4.putObj l (.loop { apRec fn sv Bs D .ready none with state := .busy }) = W5 := ⟨_, rfl⟩
  rw [hW5] at hbr
  have hg5 : w4.grownBy W5 (some l) := by rw [← hW5]; exact grownBy_putObj_a _ _ _
  have hk5 : KeepsWalks W W5 := hk4.trans (by rw [← hW5]; exact KeepsWalks.putObj _ hL4 rfl)
  have hv5 : W5.heap[Bs]? = some (.cells #[v] 91 (0, 0)) := by rw [← hW5]; exact (World.putObj_heap_other hBl).trans hv4
  have hK5 : W5.heap[D]? = some (.deferred (some [])) := by rw [← hW5]; exact (World.putObj_heap_other hDl).trans hK4
  have hL5 : W5.heap[l]? = some (.loop { apRec fn sv Bs D .ready none with state := .busy }) := by rw [← hW5]; exact World.putObj_heap_same hl4
  have rX5 : Row W5 X 32 (u8s x) := grown_keep hg5 rX4 (fun e => hXl (by cases e; rfl))
  have hrow5 : W5.ownsRow w0.heap.size 32 32 v ss.length (kD.all (dl ss)) := hrow4.kept hg5 (ownsRow_ne_a hrow4 hL4 (fun cur e => by first | cases e | exact hneS (Obj.cells.inj e).2.1))
  have hb5 : Below w0.heap.size w0 W5 := hb4.grown hg5 hb4.size (fun k e => by cases e; exact h0l)
  clear hW5 hg5 hk4 hv4 hK4 hL4 rX4 hrow4 hb4 hl4
  refine ⟨W5, hbr, ?_⟩
  clear hbr
  have rB5 : Row W5 Bs 91 [v] := hv5
  have hcv : v.oneCell' = true := by
    rcases hrow5.2 with ⟨rfl, _⟩ | ⟨g, cap, cur, rfl, _⟩ <;> rfl
  unfold apBody
  gi_wp2_with (first
    | ((with_reducible refine at_slotIn 8 ?_); (refine inArm_value rfl (fun c h => nomatch h) rfl v (run_op_load1 _ _ rfl (.slice 32) (by kernel_rfl) rfl ⟨Bs, 0, none⟩ rfl v (rB5.cell rfl)) ?_))
    | ((with_reducible refine at_slotIn 9 ?_); refine inArm_load 32 _ rfl rfl X 0 rfl (u8s x) ((Has.refl _).range rX5) (szH hx) ?_)
    | ((with_reducible refine at_slotIn 10 ?_); ((refine inArm_value rfl (fun c h => nomatch h) rfl _ (Sl.run_op_lit (K := kD) fD [x] (Sl.allOk_cons hx Sl.allOk_nil) (by simp) 1 _ rfl rfl (by simp only [List.map_toArray, List.map_cons, List.map_nil]; rfl)) ?_); have nY := new_alloc W5 (.cells (kD.all [x]).toArray 32); have rY : Row (W5.alloc (.cells (kD.all [x]).toArray 32)) W5.heap.size 32 (kD.all [x]) := heap_alloc_new W5 _; generalize W5.alloc (.cells (kD.all [x]).toArray 32) = W6 at nY rY ⊢; have hrow6 := hrow5.kept (New.grown nY) (by cases v.ownBlock <;> simp)))
    | ((with_reducible refine at_slotIn 11 ?_); ((refine wpListIn_append_own _ rfl _ _ 91 rfl w0.heap.size 32 i0 (.agg (u8s zh).toArray) 32 32 (by kernel_rfl) hi hz0 hz1 hz2 rfl (by decide) _ _ _ rfl hrow6 ⟨W5.heap.size, 0, none⟩ 1 1 (kD.all [x]) rfl (by rw [Sl.all_one1]; exact h_len hx) (cells_at rY) (by rw [Sl.all_one1]; exact u8s_one _) (by omega) (by omega) (by have := hb5.size; have := nY.size; omega) ?_); intro v' w7 hown' hg7 hnil7); replace hg7 : W6.grownBy w7 v.ownBlock := hg7; have ne6 : ∀ {j : Nat} {o : Obj}, W6.heap[j]? = some o → (∀ cur, o ≠ .cells cur 32 (0, 0)) → some j ≠ v.ownBlock := (fun hj hno => (ownsRow_ne_a hrow6 hj hno).elim (fun e => by rw [e]; simp) (fun e e' => e e'.symm)); have rB7 : Row w7 Bs 91 [v] := grown_keep hg7 (rB5.old nY.below) (ne6 (rB5.old nY.below) (fun cur e => hneS (Obj.cells.inj e).2.1)); have hcv' : v'.oneCell' = true := (hown'.2.elim (fun q => by rw [q.1]; rfl) (fun ⟨g, cap, cur, q, _⟩ => by rw [q]; rfl)); go_frame)
    | ((with_reducible refine at_storeIn ?_); (refine inArm_skip rfl (fun c h => nomatch h) rfl (run_op_storeV _ _ _ rfl Bs 0 rfl v' rfl hcv' (by kernel_rfl) _ _ rB7 (by simp)) ?_; have rB8 := row_setRow rB7 ([v].set 0 v'); have oB := Only.setRow Bs w7 ([v].set 0 v').toArray; generalize w7.setRow Bs ([v].set 0 v').toArray = w8 at rB8 oB ⊢)))
  have g56 := New.grown nY
  have g78 : w7.grownBy w8 (some Bs) := ⟨oB.os, oB.tape, oB.output, oB.size, fun k hk hn => oB.block k hk (fun e => hn (by rw [e]))⟩
  have hL6 := grown_keep g56 hL5 (by simp)
  have hK6 := grown_keep g56 hK5 (by simp)
  have hL7 := grown_keep hg7 hL6 (ne6 hL6 (fun cur e => by cases e))
  have hK7 := grown_keep hg7 hK6 (ne6 hK6 (fun cur e => by cases e))
  have hL8 := grown_keep g78 hL7 (fun e => hBl (by cases e; rfl))
  have hK8 := grown_keep g78 hK7 (fun e => hDB (by cases e; rfl))
  have hrow8 := hown'.kept g78 (ownsRow_ne_a hown' rB7 (fun cur e => hneS (Obj.cells.inj e).2.1))
  have hl8 : l < w8.heap.size := (Array.getElem?_eq_some_iff.1 hL8).1
  have hb6 : Below w0.heap.size w0 W6 := hb5.grown g56 hb5.size (fun k e => by cases e)
  have hb7 : Below w0.heap.size w0 w7 := hb6.grown hg7 hb6.size (fun k e => (hrow6.lt k e).1)
  have hb8 : Below w0.heap.size w0 w8 := hb7.grown g78 hb7.size (fun k e => by cases e; exact h0B)
  have hk8 : KeepsWalks W w8 := ((hk5.trans (grown_walks g56)).trans (KeepsWalks.of_grownBy hg7 (ownsRow_not_walk_a hrow6))).trans (KeepsWalks.of_grownBy g78 (fun j o e ho => by cases e; rw [show w7.heap[Bs]? = _ from rB7] at ho; cases ho; rfl))
  have hv8 : w8.heap[Bs]? = some (.cells #[v'] 91 (0, 0)) := rB8
  refine ⟨_, _, run_endRound none hL8, rfl, ⟨⟨v', (World.putObj_heap_other hBl).trans hv8, ?_, ?_⟩, World.putObj_heap_same hl8, (World.putObj_heap_other hDl).trans hK8, hb8.grown (grownBy_putObj_a _ _ _) hb8.size (fun k e => by cases e; exact h0l)⟩, hk8.trans (KeepsWalks.putObj _ hL8 rfl)⟩
  · have := hrow8.kept (grownBy_putObj_a w8 l (.loop { { apRec fn sv Bs D .ready none with state := .busy } with state := if (none : Option Code).isNone then .ready else .done, pending := none })) (ownsRow_ne_a hrow8 hL8 (fun cur e => by cases e))
    simpa [Sl.all_append, dl] using this
  · rw [hnil7]; simp
set_option maxRecDepth 100000 in
set_option maxHeartbeats 4000000 in
theorem appendSeq_in (F : Fence) (n : Nat) (hf : F.fn 54) (hro : F.round = none) (hn : 2 ≤ n) (g : Nat) (lb : Array Value) (hFg : F.fn g) (eg : ∀ args w, (callFunc g args).run Tryz.prog w = .ok (.enter g args) w)
    (S : List D32 → Prop) (N : Nat) (hN : N ≤ maxLen) (hNb : N * 32 ≤ 140737488355328) (w : World) (hseq : SeqGives F (n - 1) Tryz.prog g lb encD S N w) :
    CallsIn F n Tryz.prog 54 #[.slice none 0 0, .func (.func g) #[] lb] w fun e w' => ∃ (v : Value) (ss : List D32), e = .returned v ∧ S ss ∧ w'.ownsRow w.heap.size 32 32 v ss.length (kD.all (dl ss)) ∧ (v = .slice none 0 0 ↔ ss = []) ∧ Below w.heap.size w w' := by
  have h1 : 1 ≤ n := by omega
  refine callsIn_of_wp_marks Tryz.func54 rfl hf ?_ hro
  simp only [Tryz.ntmps54, List.size_toArray, List.length_cons, List.length_nil, Nat.reduceAdd, Nat.reduceSub, Array.replicate_succ, Array.replicate_zero, List.push_toArray, List.append_toArray, List.nil_append, List.cons_append]
  gi_wp2
  refine wpIn_rangeFunc ?_
  intro fn hfn
  rw [hro]
  obtain ⟨W0, hW0⟩ : ∃ W0, w.alloc (.cells #[.slice none 0 0] 91) = W0 := ⟨_, rfl⟩
  have hs0 : W0.heap.size = w.heap.size + 1 := by rw [← hW0]; simp
  have hv0 : W0.heap[w.heap.size]? = some (.cells #[.slice none 0 0] 91 (0, 0)) := by rw [← hW0]; exact World.alloc_heap_new w _
  have hb0 : Below w.heap.size w W0 := by rw [← hW0]; exact (Below.refl _ w).alloc (Nat.le_refl _) _
  rw [hW0]
  obtain ⟨W1, hW1⟩ : ∃ W1, (W0.alloc (.deferred (some []))).alloc (.loop (apRec fn (.func (.func g) #[] lb) w.heap.size W0.heap.size .ready none)) = W1 := ⟨_, rfl⟩
  have hold : ∀ k, k < W0.heap.size → W1.heap[k]? = W0.heap[k]? := fun k hk => by
    rw [← hW1]; exact (Below.heap_alloc _ _ k (by simp; omega)).trans (Below.heap_alloc _ _ k hk)
  have hb1 : Below w.heap.size w W1 := by rw [← hW1]; exact (hb0.alloc hb0.size _).alloc (by have := hb0.size; simp; omega) _
  have hs1 : W1.heap.size = W0.heap.size + 2 := by rw [← hW1]; simp
  have hM : ApAt w fn (.func (.func g) #[] lb) w.heap.size (W0.heap.size + 1) W0.heap.size [] W1 :=
    ⟨⟨_, (hold w.heap.size (by omega)).trans hv0, ⟨rfl, .inl ⟨rfl, rfl⟩⟩, by simp⟩,
     by rw [← hW1]; have := World.alloc_heap_new (W0.alloc (.deferred (some []))) (.loop (apRec fn (.func (.func g) #[] lb) w.heap.size W0.heap.size .ready none)); rwa [World.size_alloc] at this,
     by rw [← hW1]; exact (Below.heap_alloc _ _ _ (by simp)).trans (World.alloc_heap_new W0 _), hb1⟩
  refine ⟨W0.heap.size + 1, [{ target := .collected W0.heap.size, args := #[] }], W1, { target := .fn (.func g) lb, args := #[.func (.yield (W0.heap.size + 1)) #[] #[]] }, W1, g,
    #[.func (.yield (W0.heap.size + 1)) #[] #[]] ++ lb, W1, ?_, ?_, ?_, ?_, fun _ => h1, ?_⟩
  · rw [← hW1]; exact run_enterLoop_outer _ _ _ _ _
  · simp [resolve, go_sem]
  · intro f' hf'; simp [Target.leads] at hf'; subst hf'; exact hFg
  · simp [invoke, go_sem, eg]
  · refine (hseq (W0.heap.size + 1) (ApAt w fn (.func (.func g) #[] lb) w.heap.size (W0.heap.size + 1) W0.heap.size) W1 hb1 (ap_abides _ _ _ _ _ _ _ hb1.size)
      (fun pre x W hJ hl => apYield F (n - 1 - 1) w fn hfn _ w.heap.size (W0.heap.size + 1) W0.heap.size (by omega) (by omega) (by omega) (Nat.le_refl _) (by omega) N hN hNb pre x W hJ hl) hM).mono ?_
    rintro e W2 ⟨⟨v0, rfl⟩, ss, hS, h2⟩
    obtain ⟨v, hv, hrow, hnil⟩ := h2.box
    have hend := run_endLoop (P := Tryz.prog) h2.L (by simp [apRec])
    obtain ⟨W3, hW3⟩ : ∃ W3, W2.putObj (W0.heap.size + 1) (.loop { apRec fn (.func (.func g) #[] lb) w.heap.size W0.heap.size .ready none with state := .exhausted }) = W3 := ⟨_, rfl⟩
    rw [hW3] at hend
    have hg3 : W2.grownBy W3 (some (W0.heap.size + 1)) := by rw [← hW3]; exact grownBy_putObj_a _ _ _
    have hv3 : W3.heap[w.heap.size]? = some (.cells #[v] 91 (0, 0)) := by rw [← hW3]; exact (World.putObj_heap_other (by omega)).trans hv
    have hK3 : W3.heap[W0.heap.size]? = some (.deferred (some [])) := by rw [← hW3]; exact (World.putObj_heap_other (by omega)).trans h2.K
    have hrow3 := hrow.kept hg3 (ownsRow_ne_a hrow h2.L (fun cur e => by cases e))
    have hb3 : Below w.heap.size w W3 := h2.below.grown hg3 h2.below.size (fun k e => by cases e; omega)
    obtain ⟨hc3, hf3⟩ := cell_of_box_a hv3
    clear hW3
    refine ⟨none, W3, hend, ?_⟩
    gi_wp2
    rw [← hs0]
    refine ⟨by simp, .inl ⟨_, _, rfl, run_takeDeferred hK3, ?_⟩⟩
    exact ⟨_, results_tmp rfl _ _ _, v, ss, rfl, hS, hrow3.kept (grownBy_putObj_a _ _ _) (ownsRow_ne_a hrow3 hK3 (fun cur e => by cases e)), hnil, hb3.grown (grownBy_putObj_a _ _ _) hb3.size (fun k e => by cases e; omega)⟩
set_option maxHeartbeats 1000000 in
theorem collect_in (F : Fence) (n : Nat) (hf : F.fn 39) (hf' : F.fn 54) (hro : F.round = none) (hn : 3 ≤ n) (g : Nat) (lb : Array Value) (hFg : F.fn g) (eg : ∀ args w, (callFunc g args).run Tryz.prog w = .ok (.enter g args) w)
    (S : List D32 → Prop) (N : Nat) (hN : N ≤ maxLen) (hNb : N * 32 ≤ 140737488355328) (w : World) (hseq : SeqGives F (n - 1 - 1) Tryz.prog g lb encD S N w) :
    CallsIn F n Tryz.prog 39 #[.func (.func g) #[] lb] w fun e w' => ∃ (v : Value) (ss : List D32), e = .returned v ∧ S ss ∧ w'.ownsRow w.heap.size 32 32 v ss.length (kD.all (dl ss)) ∧ (v = .slice none 0 0 ↔ ss = []) ∧ Below w.heap.size w w' := by
  have h1 : 1 ≤ n := by omega
  have e50 : ∀ args w, (callFunc 54 args).run Tryz.prog w = .ok (.enter 54 args) w := enters_of Tryz.func54 (by kernel_rfl) rfl
  refine callsIn_of_wp Tryz.func39 rfl hf ?_ hro
  simp only [Tryz.ntmps39, List.size_toArray, List.length_cons, List.length_nil, Nat.reduceAdd, Nat.reduceSub, Array.replicate_succ, Array.replicate_zero, List.push_toArray, List.append_toArray, List.nil_append, List.cons_append]
  gi_wp2_with (gi_at_fn 54; refine (appendSeq_in F (n - 1) hf' hro (by omega) g lb hFg eg S N hN hNb _ hseq).mono ?_; rintro e w' ⟨v, ss, rfl, hS, hrow, hnil, hb⟩)
  go_ret
  exact ⟨v, ss, rfl, hS, hrow, hnil, hb⟩
/-- Both, in the open. -/
theorem keys_any (mb : Nat) (w : World) : Calls Tryz.prog 40 #[.map (some mb)] w fun e w' => e = .returned (.func (.func 55) #[] #[.pointer (some ⟨w.heap.size, 0, none⟩)]) ∧ w' = w.alloc (.cells #[.map (some mb)] 76) :=
  callsIn_wide.1 (keys_in Fence.wide 5 trivial rfl (some mb) w)
theorem collect_any {β : Type} (U : β → Value) (L : List (List Nat × β)) (hL : ∀ p ∈ L, H32 p.1) (hl : L.length ≤ 1000000) (B b : Nat) (w : World) (hB : Row w B 76 [.map (some b)]) (hown : KMap w b hashV U hashOk L) :
    Calls Tryz.prog 39 #[.func (.func 55) #[] #[.pointer (some ⟨B, 0, none⟩)]] w fun e w' => ∃ (ds : List (List Nat)) (p : Option Addr) (cap : Nat), e = .returned (.slice p ds.length cap) ∧ ds.Perm (L.map Prod.fst) ∧ Sl.Own kD w' w.heap.size p cap ds ∧ Below w.heap.size w w' := by
  refine (callsIn_wide.1 (collect_in Fence.wide 5 trivial trivial rfl (by omega) 55 #[.pointer (some ⟨B, 0, none⟩)] trivial (enters_of Tryz.func55 (by kernel_rfl) rfl) _ L.length (by unfold maxLen; omega) (by omega) w
    (keys_gives U L hL Fence.wide _ trivial rfl (by omega) B b w hB.lt (hB.cell rfl) hown))).mono ?_
  rintro e w' ⟨v, ss, rfl, hS, hrow, _, hb⟩
  have hrow' : w'.ownsRow w.heap.size 32 32 v (dl ss).length (kD.all (dl ss)) := by rw [List.length_map]; exact hrow
  obtain ⟨p, cap, rfl, ho⟩ := Sl.Own.of_slice (K := kD) hrow' (dl_ok ss)
  exact ⟨dl ss, p, cap, rfl, hS, ho, hb⟩
end Go.Proofs.YtnjmocobncncdaaGreatDoor.So

/-
  The program's store in memory: a row, a map from digests to states of their own. Over this seat's translation.
-/
namespace Go.Proofs.YtnjmocobncncdaaGreatDoor.So
open Go.ChangeShapes Go.WideShapes Go.ChangeAt Go.RowKit Go.Proofs.YtnjmocobncncdaaGreatDoor.Mem Go.Proofs.YtnjmocobncncdaaGreatDoor.Bt Go.Proofs.YtnjmocobncncdaaGreatDoor.Km
open Go.Proofs.YtnjmocobncncdaaGreatDoor.Ep (H32 zh zh_ok Has h_len szH zH fitH allH one_app num32)
open Go.Proofs.YtnjmocobncncdaaGreatDoor.Sl (Kind At bk)
open Go.Proofs.YtnjmocobncncdaaGreatDoor.Sa (Sta scs digS digS_ok sz_sta h_drw h_lngth)
open Go.Proofs.YtnjmocobncncdaaGreatDoor.Od (Ky kcs keyN keyN_ok kcs_len kcmp kval)
set_option linter.unusedVariables false
set_option linter.unusedSimpArgs false

section
variable {P : Program} {ops : Array Oper} {rest : List Oper} {o : Oper} {a : Act} {w : World} {Q : Exit → Act → World → Prop}
theorem arm_box1 (hgd : o.guard = none) (t : TypeId) (x : Operand) (ho : o.op = .box t x) (v : Value) (hx : a.eval x = v) (hc : v.cells = #[v])
    (h : ∀ b w2, Hid (b = w.heap.size) → Row w2 b t [v] → New w w2 → wpList P ops Q rest (a.put o.dst (.pointer (some ⟨b, 0, none⟩))) w2) : wpList P ops Q (o :: rest) a w := by
  refine wpList_plain hgd fun K hK => ?_
  have hr : (execOp a.eval o).run P w = .ok (.value (.pointer (some ⟨w.heap.size, 0, none⟩))) (w.alloc (.cells [v].toArray t)) := by
    unfold execOp
    simp [ho, hx, Instr.box, newVar, newRow, hc]
  unfold Oper.wp
  rw [hr]
  exact hK _ _ (h _ _ rfl (heap_alloc_new _ _) (new_alloc _ _))
end
def pcs (r mb : Nat) (pin : Option (List Nat)) : List Value := [.int .i64 (r : Int), .map (some mb)] ++ u8s (pin.getD zh) ++ [.bool pin.isSome]
theorem built_own (r mb : Nat) : Tryz.prog.built 78 [(0, .int .i64 (r : Int)), (1, .map (some mb))] = some (pcs r mb none).toArray := by kernel_rfl
def ptrV (b : Nat) : Value := .pointer (some ⟨b, 0, none⟩)
theorem und_map : Tryz.prog.underlying 76 = some (.map 32 87) := by kernel_rfl
theorem zero_ptr (w : World) : (zeroValue 87).run Tryz.prog w = .ok (.pointer none) w := by kernel_rfl
/-- A state's digest, its key's value. -/
abbrev vK (s : Sta) : Nat := kval (keyN s)
/-- States, each with where it stands. -/
abbrev Ents := List (Sta × Nat)
def entD (p : Sta × Nat) : List Nat × Nat := (digS p.1, p.2)
abbrev PMap (w : World) (mb : Nat) (E : Ents) : Prop := KMap w mb hashV ptrV hashOk (E.map entD)
structure SAt (w : World) (F : Nat → Prop) (S r mb : Nat) (pin : Option (List Nat)) (E : Ents) : Prop where
  row : Row w S 78 (pcs r mb pin)
  map : PMap w mb E
  st : ∀ p ∈ E, Row w p.2 44 (scs p.1)
  ok : ∀ p ∈ E, p.1.Ok
  pok : ∀ p, pin = some p → H32 p
  fS : F S
  fm : F mb
  fE : ∀ p ∈ E, F p.2
  lies : Lies F w
section
variable {w w' : World} {F G F' : Nat → Prop} {S r mb : Nat} {pin : Option (List Nat)} {E : Ents}
theorem SAt.of_same (h : SAt w F S r mb pin E) (hs : w.heap.size ≤ w'.heap.size) (hb : ∀ k, F k → w'.heap[k]? = w.heap[k]?) : SAt w' F S r mb pin E :=
  ⟨h.row.of_block (hb _ h.fS), h.map.of_block (hb _ h.fm), fun p hp => (h.st p hp).of_block (hb _ (h.fE p hp)), h.ok, h.pok, h.fS, h.fm, h.fE, h.lies.mono hs⟩
theorem SAt.chg (h : SAt w F S r mb pin E) (c : Chg G w w') (hs : Sep G F) : SAt w' F S r mb pin E := h.of_same c.size fun k hk => c.block k (h.lies k hk) fun e => hs k e hk
theorem SAt.old (h : SAt w F S r mb pin E) (hb : Below w.heap.size w w') : SAt w' F S r mb pin E := h.of_same hb.size fun k hk => hb.block k (h.lies k hk)
theorem SAt.only {c : Nat} (h : SAt w F S r mb pin E) (ho : Only c w w') (hn : ¬ F c) : SAt w' F S r mb pin E := h.of_same ho.size fun k hk => ho.block k (h.lies k hk) fun e => hn (e ▸ hk)
theorem pin_ok' (h : ∀ p, pin = some p → H32 p) : H32 (pin.getD zh) := by
  cases pin with
  | none => exact zh_ok
  | some p => exact h p rfl
theorem ent_hash (h : SAt w F S r mb pin E) : ∀ p ∈ E.map entD, H32 p.1 := fun p hp => by
  obtain ⟨q, _, rfl⟩ := List.mem_map.1 hp
  exact digS_ok q.1
theorem ent_nodup (h : SAt w F S r mb pin E) : (E.map fun p => digS p.1).Nodup := by
  have := h.map.nodup
  rwa [List.map_map] at this
theorem look_ent (hn : (E.map fun p => digS p.1).Nodup) {p : Sta × Nat} (hp : p ∈ E) : Km.look (E.map entD) (digS p.1) = some p.2 :=
  Km.look_at (by rw [List.map_map]; exact hn) (List.mem_map.2 ⟨p, hp, rfl⟩)
theorem look_no {h : List Nat} (hn : ∀ p ∈ E, digS p.1 ≠ h) : Km.look (E.map entD) h = none :=
  Km.look_none.2 fun q hq => by
    obtain ⟨p, hp, rfl⟩ := List.mem_map.1 hq
    exact hn p hp
theorem S_ne_m (h : SAt w F S r mb pin E) : S ≠ mb := fun e => h.map.row h.row e.symm
theorem st_ne_S (h : SAt w F S r mb pin E) {p : Sta × Nat} (hp : p ∈ E) : p.2 ≠ S := (h.st p hp).ne_type h.row (by decide)
theorem st_ne_m (h : SAt w F S r mb pin E) {p : Sta × Nat} (hp : p ∈ E) : p.2 ≠ mb := fun e => h.map.row (h.st p hp) e.symm
end
/-- The store, by what is kept, in the order of the keys. -/
structure PAt (w : World) (F : Nat → Prop) (S r : Nat) (pin : Option (List Nat)) (L : List Sta) : Prop where
  ex : ∃ mb E, SAt w F S r mb pin E ∧ (E.map Prod.fst).Perm L
  ok : SOk vK digS r pin L
section
variable {w w' : World} {F G F' : Nat → Prop} {S r : Nat} {pin : Option (List Nat)} {L : List Sta}
theorem PAt.chg (h : PAt w F S r pin L) (c : Chg G w w') (hs : Sep G F) : PAt w' F S r pin L := by
  obtain ⟨mb, E, hS, hp⟩ := h.ex
  exact ⟨⟨mb, E, hS.chg c hs, hp⟩, h.ok⟩
theorem PAt.old (h : PAt w F S r pin L) (hb : Below w.heap.size w w') : PAt w' F S r pin L := by
  obtain ⟨mb, E, hS, hp⟩ := h.ex
  exact ⟨⟨mb, E, hS.old hb, hp⟩, h.ok⟩
theorem PAt.lies (h : PAt w F S r pin L) : Lies F w := by
  obtain ⟨mb, E, hS, hp⟩ := h.ex
  exact hS.lies
theorem PAt.states (h : PAt w F S r pin L) : ∀ x ∈ L, x.Ok := by
  obtain ⟨mb, E, hS, hp⟩ := h.ex
  intro x hx
  obtain ⟨p, hpE, rfl⟩ := List.mem_map.1 (hp.mem_iff.2 hx)
  exact hS.ok p hpE
end
end Go.Proofs.YtnjmocobncncdaaGreatDoor.So

/-
  The contracts of the store's key and of the order that rising sorts by. Over this seat's translation.
-/
namespace Go.Proofs.YtnjmocobncncdaaGreatDoor.So
open Go.ChangeShapes Go.WideShapes Go.ChangeAt Go.RowKit Go.Proofs.YtnjmocobncncdaaGreatDoor.Mem Go.Proofs.YtnjmocobncncdaaGreatDoor.Bt Go.Proofs.YtnjmocobncncdaaGreatDoor.Km
open Go.Proofs.YtnjmocobncncdaaGreatDoor.Ep (H32 zh zh_ok Has h_len szH zH fitH allH one_app num32)
open Go.Proofs.YtnjmocobncncdaaGreatDoor.Sl (Kind At bk)
open Go.Proofs.YtnjmocobncncdaaGreatDoor.Sa (Sta scs digS digS_ok sz_sta h_drw h_lngth)
open Go.Proofs.YtnjmocobncncdaaGreatDoor.Od (Ky kcs keyN keyN_ok kcs_len kcs_one kcmp kval zk z_key sz_key fitK allK built_key compare_anyD)
set_option linter.unusedVariables false
set_option linter.unusedSimpArgs false

set_option maxHeartbeats 4000000 in
set_option maxRecDepth 100000 in
theorem key_any (F : Nat → Prop) (S r mb : Nat) (pin : Option (List Nat)) (E : Ents) (x : Sta) (b : Nat) (w : World) (hS : SAt w F S r mb pin E) (hx : (x, b) ∈ E) :
    Calls Tryz.prog 31 #[.pointer (some ⟨S, 0, none⟩), .agg (u8s (digS x)).toArray] w fun e w' => e = .returned (.agg (kcs (keyN x)).toArray) ∧ BelD w.heap.size w w' := by
  have hlk := look_ent (ent_nodup hS) hx
  have HV : Hid ((if false = true then Value.tuple #[((Km.look (E.map entD) (digS x)).map ptrV).getD (.pointer none), .bool (Km.look (E.map entD) (digS x)).isSome] else ((Km.look (E.map entD) (digS x)).map ptrV).getD (.pointer none)) = .pointer (some ⟨b, 0, none⟩)) := Lib.hid (by rw [hlk]; rfl)
  have hrow := hS.row
  have hmap := hS.map
  have hst : Row w b 44 (scs x) := hS.st _ hx
  have OK := Lib.hid (hS.ok _ hx)
  have KH := Lib.hid (digS_ok x)
  have HH : Hid (hashOk (digS x)) := Lib.hid (digS_ok x).len
  have KK := Lib.hid (keyN_ok (hS.ok _ hx))
  have KB := Lib.hid (built_key (keyN_ok (hS.ok _ hx)))
  clear hlk hS hx
  go_enter Tryz.func31, Tryz.ntmps31
  have bel0 : BelD w.heap.size w w := BelD.refl _ _
  go_wp2_with (first
    | ((with_reducible refine at_slot 3 ?_); (refine arm_box (o := ⟨some 3, _, _, _, _, _⟩) rfl _ _ rfl (u8s (digS x)) rfl ?_); intro X v1 Xe hv1 nv1; try simp only [Act.put, List.setIfInBounds_toArray, List.set_cons_zero, List.set_cons_succ])
    | ((with_reducible refine at_slot 4 ?_); (refine arm_alloc (o := ⟨some 4, _, _, _, _, _⟩) rfl _ rfl (kcs zk) z_key ?_); intro R v2 Re hv2 nv2; try simp only [Act.put, List.setIfInBounds_toArray, List.set_cons_zero, List.set_cons_succ]))
  have hbv1 := nv1.beld
  have rrv1 : Row v1 X 32 (u8s (digS x)) := hv1
  have hbv2 := nv2.beld
  have rrv2 : Row v2 R 90 (kcs zk) := hv2
  have geX : w.heap.size ≤ X := by have := Xe.out; have := bel0.size; omega
  have lXx : w.heap.size ≤ X := by have := Xe.out; omega
  clear hv1 nv1 Xe
  have S_3 : Row v1 S 78 (pcs r mb pin) := hrow.old hbv1.below
  have M_3 : PMap v1 mb E := hmap.old hbv1.below
  have b_3 : Row v1 b 44 (scs x) := hst.old hbv1.below
  have bel_3 : BelD w.heap.size w v1 := beld_step bel0 bel0.size hbv1
  clear hrow hmap hst bel0 hbv1
  have geR : w.heap.size ≤ R := by have := Re.out; have := bel_3.size; omega
  have ltXR : X < R := by have := Re.out; have := rrv1.lt; omega
  have lRx : v1.heap.size ≤ R := by have := Re.out; omega
  clear hv2 nv2 Re
  have S_4 : Row v2 S 78 (pcs r mb pin) := S_3.old hbv2.below
  have M_4 : PMap v2 mb E := M_3.old hbv2.below
  have b_4 : Row v2 b 44 (scs x) := b_3.old hbv2.below
  have X_4 : Row v2 X 32 (u8s (digS x)) := rrv1.old hbv2.below
  have bel_4 : BelD w.heap.size w v2 := beld_step bel_3 bel_3.size hbv2
  clear S_3 M_3 b_3 rrv1 bel_3 hbv2
  have nRX : X ≠ R := X_4.ne_type rrv2 (by decide)
  have nRS : S ≠ R := S_4.ne_type rrv2 (by decide)
  have nRM : mb ≠ R := M_4.row rrv2
  have nRb : b ≠ R := b_4.ne_type rrv2 (by decide)
  refine wp_region_held (S := fun w' => Row w' S 78 (pcs r mb pin) ∧ PMap w' mb E ∧ Row w' X 32 (u8s (digS x)) ∧ True) (by kernel_rfl) ?_
  change wpAnyH _ _ _ _ _ _ _ _ v2.drew
  have hd5 : BelD v2.heap.size v2 v2.drew := (BelD.refl _ _).drew
  have S_6 : Row v2.drew S 78 (pcs r mb pin) := S_4.old hd5.below
  have M_6 : PMap v2.drew mb E := M_4.old hd5.below
  have b_6 : Row v2.drew b 44 (scs x) := b_4.old hd5.below
  have X_6 : Row v2.drew X 32 (u8s (digS x)) := X_4.old hd5.below
  have R_6 : Row v2.drew R 90 (kcs zk) := rrv2.old hd5.below
  have bel_6 : BelD w.heap.size w v2.drew := beld_step bel_4 bel_4.size hd5
  clear S_4 M_4 b_4 X_4 rrv2 bel_4 hd5
  generalize v2.drew = yz5 at S_6 M_6 b_6 X_6 R_6 bel_6 ⊢
  refine h_take 0 (.pointer (some ⟨S, 0, none⟩)) rfl 6 rfl (by kernel_rfl) (by kernel_rfl) (by kernel_rfl) (by kernel_rfl) (fun _ _ _ h => h) (fun w' _ => by kernel_rfl) ⟨S_6, M_6, X_6, trivial⟩ ?_
  simp only [Act.put, List.setIfInBounds_toArray, List.set_cons_zero, List.set_cons_succ]
  refine h_take 1 (.pointer (some ⟨S, 0, none⟩)) rfl 7 rfl (by kernel_rfl) (by kernel_rfl) (by kernel_rfl) (by kernel_rfl) (fun _ _ _ h => h) (fun w' _ => by kernel_rfl) ⟨S_6, M_6, X_6, trivial⟩ ?_
  simp only [Act.put, List.setIfInBounds_toArray, List.set_cons_zero, List.set_cons_succ]
  refine h_take 2 (.pointer (some ⟨S, 1, none⟩)) rfl 8 rfl (by kernel_rfl) (by kernel_rfl) (by kernel_rfl) (by kernel_rfl) (fun _ _ _ h => h) (fun w' _ => by kernel_rfl) ⟨S_6, M_6, X_6, trivial⟩ ?_
  simp only [Act.put, List.setIfInBounds_toArray, List.set_cons_zero, List.set_cons_succ]
  refine h_take 3 (.map (some mb)) rfl 9 rfl (by kernel_rfl) (by kernel_rfl) (by kernel_rfl) (by kernel_rfl) (fun _ _ _ h => h) (fun w' hw => run_op_load1 _ _ rfl (.map 32 87) und_map rfl ⟨S, 1, none⟩ rfl (.map (some mb)) (hw.1.cell (i := 1) rfl)) ⟨S_6, M_6, X_6, trivial⟩ ?_
  simp only [Act.put, List.setIfInBounds_toArray, List.set_cons_zero, List.set_cons_succ]
  refine h_take 4 (.agg (u8s (digS x)).toArray) rfl 10 rfl (by kernel_rfl) (by kernel_rfl) (by kernel_rfl) (by kernel_rfl) (fun _ _ _ h => h) (fun w' hw => run_op_load _ _ rfl X (0) rfl (u8s (digS x)) (((Has.refl _)).range hw.2.2.1) ((szH KH.out))) ⟨S_6, M_6, X_6, trivial⟩ ?_
  simp only [Act.put, List.setIfInBounds_toArray, List.set_cons_zero, List.set_cons_succ]
  refine h_take 5 (.pointer (some ⟨b, 0, none⟩)) rfl 11 rfl (by kernel_rfl) (by kernel_rfl) (by kernel_rfl) (by kernel_rfl) (fun _ _ _ h => h) (fun w' hw => by rw [← HV.out]; exact run_op_lookupK _ _ _ false rfl rfl (digS x) HH.out rfl hw.2.1 hash_keys und_map _ (zero_ptr _)) ⟨S_6, M_6, X_6, trivial⟩ ?_
  simp only [Act.put, List.setIfInBounds_toArray, List.set_cons_zero, List.set_cons_succ]
  refine h_take 6 (.pointer (some ⟨b, 0, none⟩)) rfl 5 rfl (by kernel_rfl) (by kernel_rfl) (by kernel_rfl) (by kernel_rfl) (fun _ _ _ h => h) (fun w' _ => by kernel_rfl) ⟨S_6, M_6, X_6, trivial⟩ ?_
  simp only [Act.put, List.setIfInBounds_toArray, List.set_cons_zero, List.set_cons_succ]
  refine wpAnyH_done (by kernel_rfl) ?_ _
  go_wp2_with fail
  refine wp_region_held (S := fun w' => Row w' b 44 (scs x) ∧ Row w' X 32 (u8s (digS x)) ∧ True) (by kernel_rfl) ?_
  change wpAnyH _ _ _ _ _ _ _ _ yz5.drew
  have hd7 : BelD yz5.heap.size yz5 yz5.drew := (BelD.refl _ _).drew
  have S_8 : Row yz5.drew S 78 (pcs r mb pin) := S_6.old hd7.below
  have M_8 : PMap yz5.drew mb E := M_6.old hd7.below
  have b_8 : Row yz5.drew b 44 (scs x) := b_6.old hd7.below
  have X_8 : Row yz5.drew X 32 (u8s (digS x)) := X_6.old hd7.below
  have R_8 : Row yz5.drew R 90 (kcs zk) := R_6.old hd7.below
  have bel_8 : BelD w.heap.size w yz5.drew := beld_step bel_6 bel_6.size hd7
  clear S_6 M_6 b_6 X_6 R_6 bel_6 hd7
  generalize yz5.drew = yz7 at S_8 M_8 b_8 X_8 R_8 bel_8 ⊢
  refine h_take 0 (.pointer (some ⟨b, 0, none⟩)) rfl 12 rfl (by kernel_rfl) (by kernel_rfl) (by kernel_rfl) (by kernel_rfl) (fun _ _ _ h => h) (fun w' _ => by kernel_rfl) ⟨b_8, X_8, trivial⟩ ?_
  simp only [Act.put, List.setIfInBounds_toArray, List.set_cons_zero, List.set_cons_succ]
  refine h_take 1 (.pointer (some ⟨b, 0, none⟩)) rfl 13 rfl (by kernel_rfl) (by kernel_rfl) (by kernel_rfl) (by kernel_rfl) (fun _ _ _ h => h) (fun w' _ => by kernel_rfl) ⟨b_8, X_8, trivial⟩ ?_
  simp only [Act.put, List.setIfInBounds_toArray, List.set_cons_zero, List.set_cons_succ]
  refine h_take 2 (.pointer (some ⟨b, 97, none⟩)) rfl 14 rfl (by kernel_rfl) (by kernel_rfl) (by kernel_rfl) (by kernel_rfl) (fun _ _ _ h => h) (fun w' _ => by kernel_rfl) ⟨b_8, X_8, trivial⟩ ?_
  simp only [Act.put, List.setIfInBounds_toArray, List.set_cons_zero, List.set_cons_succ]
  refine h_take 3 (num32 x.len) rfl 15 rfl (by kernel_rfl) (by kernel_rfl) (by kernel_rfl) (by kernel_rfl) (fun _ _ _ h => h) (fun w' hw => run_op_load1 _ _ rfl (.int .u32) (by kernel_rfl) rfl ⟨b, 97, none⟩ rfl (num32 x.len) (hw.1.cell (show Has (scs x) 97 [num32 x.len] from h_lngth OK.out).get)) ⟨b_8, X_8, trivial⟩ ?_
  simp only [Act.put, List.setIfInBounds_toArray, List.set_cons_zero, List.set_cons_succ]
  refine h_take 4 (.pointer (some ⟨b, 0, none⟩)) rfl 16 rfl (by kernel_rfl) (by kernel_rfl) (by kernel_rfl) (by kernel_rfl) (fun _ _ _ h => h) (fun w' _ => by kernel_rfl) ⟨b_8, X_8, trivial⟩ ?_
  simp only [Act.put, List.setIfInBounds_toArray, List.set_cons_zero, List.set_cons_succ]
  refine h_take 5 (.pointer (some ⟨b, 0, none⟩)) rfl 17 rfl (by kernel_rfl) (by kernel_rfl) (by kernel_rfl) (by kernel_rfl) (fun _ _ _ h => h) (fun w' _ => by kernel_rfl) ⟨b_8, X_8, trivial⟩ ?_
  simp only [Act.put, List.setIfInBounds_toArray, List.set_cons_zero, List.set_cons_succ]
  refine h_take 6 (.pointer (some ⟨b, 64, none⟩)) rfl 18 rfl (by kernel_rfl) (by kernel_rfl) (by kernel_rfl) (by kernel_rfl) (fun _ _ _ h => h) (fun w' _ => by kernel_rfl) ⟨b_8, X_8, trivial⟩ ?_
  simp only [Act.put, List.setIfInBounds_toArray, List.set_cons_zero, List.set_cons_succ]
  refine h_take 7 (.agg (u8s x.draw).toArray) rfl 19 rfl (by kernel_rfl) (by kernel_rfl) (by kernel_rfl) (by kernel_rfl) (fun _ _ _ h => h) (fun w' hw => run_op_load _ _ rfl b 64 rfl (u8s x.draw) ((show Has (scs x) 64 (u8s x.draw) from h_drw OK.out).range hw.1) (szH OK.out.draw)) ⟨b_8, X_8, trivial⟩ ?_
  simp only [Act.put, List.setIfInBounds_toArray, List.set_cons_zero, List.set_cons_succ]
  refine h_take 8 (.agg (u8s (digS x)).toArray) rfl 20 rfl (by kernel_rfl) (by kernel_rfl) (by kernel_rfl) (by kernel_rfl) (fun _ _ _ h => h) (fun w' hw => run_op_load _ _ rfl X (0) rfl (u8s (digS x)) (((Has.refl _)).range hw.2.1) ((szH KH.out))) ⟨b_8, X_8, trivial⟩ ?_
  simp only [Act.put, List.setIfInBounds_toArray, List.set_cons_zero, List.set_cons_succ]
  refine h_take 9 (.agg (kcs (keyN x)).toArray) rfl 21 rfl (by kernel_rfl) (by kernel_rfl) (by kernel_rfl) (by kernel_rfl) (fun _ _ _ h => h) (fun w' hw => run_op_build _ _ rfl (kcs (keyN x)) (by simp only [List.map_toArray, List.map_cons, List.map_nil]; exact KB.out) w') ⟨b_8, X_8, trivial⟩ ?_
  simp only [Act.put, List.setIfInBounds_toArray, List.set_cons_zero, List.set_cons_succ]
  refine h_one (i := 10) (by kernel_rfl) (o_skip rfl rfl (by kernel_rfl) (run_op_store _ _ _ rfl R (0) rfl (kcs (keyN x)) rfl _ _ R_8 (fitK KK.out) (kcs_one _) (sz_key KK.out)) ?_)
  have rq := row_setRow R_8 (lay (kcs zk) (0) (kcs (keyN x)))
  have oq := Only.setRow R yz7 (lay (kcs zk) (0) (kcs (keyN x))).toArray
  have dq : yz7.drawn ≤ (yz7.setRow R (lay (kcs zk) (0) (kcs (keyN x))).toArray).drawn := Nat.le_refl _
  generalize yz7.setRow R (lay (kcs zk) (0) (kcs (keyN x))).toArray = y9 at rq oq dq ⊢
  have S_10 : Row y9 S 78 (pcs r mb pin) := S_8.only oq nRS
  have M_10 : PMap y9 mb E := M_8.only oq nRM
  have b_10 : Row y9 b 44 (scs x) := b_8.only oq nRb
  have X_10 : Row y9 X 32 (u8s (digS x)) := X_8.only oq nRX
  have R_10 : Row y9 R 90 (kcs (keyN x)) := rq.congr (allK KK.out)
  have bel_10 : BelD w.heap.size w y9 := ⟨below_only bel_8.below oq (geR) bel_8.size, Nat.le_trans bel_8.drawn dq⟩
  clear S_8 M_8 b_8 X_8 R_8 bel_8 oq
  clear dq
  clear rq
  refine ⟨⟨b_10, X_10, trivial⟩, ?_⟩
  refine wpAnyH_done (by kernel_rfl) ?_ _
  go_wp2_with fail
  exact bodyPost_ret (v := .agg (kcs (keyN x)).toArray) (result_row (p := 4) (ty := 90) (u := 90) (by kernel_rfl) _ _ R (kcs (keyN x)) rfl R_10 (sz_key KK.out)) rfl ⟨rfl, bel_10⟩
set_option maxHeartbeats 4000000 in
set_option maxRecDepth 100000 in
theorem byKey_any (F : Nat → Prop) (S r mb : Nat) (pin : Option (List Nat)) (E : Ents) (x y : Sta × Nat) (B : Nat) (w : World) (hS : SAt w F S r mb pin E) (hB : Row w B 24 [.pointer (some ⟨S, 0, none⟩)]) (hx : x ∈ E) (hy : y ∈ E) :
    Calls Tryz.prog 42 #[.agg (u8s (digS x.1)).toArray, .agg (u8s (digS y.1)).toArray, .pointer (some ⟨B, 0, none⟩)] w fun e w' => e = .returned (.int .i64 (kcmp (keyN x.1) (keyN y.1))) ∧ BelD w.heap.size w w' := by
  have KX := Lib.hid (digS_ok x.1); have KY := Lib.hid (digS_ok y.1)
  have CX := Lib.hid (fun w0 h => key_any F S r mb pin E x.1 x.2 w0 h hx)
  have CY := Lib.hid (fun w0 h => key_any F S r mb pin E y.1 y.2 w0 h hy)
  have CC := Lib.hid (fun w0 => compare_anyD (keyN x.1) (keyN y.1) w0 (keyN_ok (hS.ok _ hx)) (keyN_ok (hS.ok _ hy)))
  generalize kcmp (keyN x.1) (keyN y.1) = z at CC ⊢
  clear hx hy
  go_enter Tryz.func42, Tryz.ntmps42
  have bel0 : BelD w.heap.size w w := BelD.refl _ _
  go_wp2_with (first
    | ((with_reducible refine at_slot 3 ?_); (refine arm_box (o := ⟨some 3, _, _, _, _, _⟩) rfl _ _ rfl (u8s (digS x.1)) rfl ?_); intro X v1 Xe hv1 nv1; try simp only [Act.put, List.setIfInBounds_toArray, List.set_cons_zero, List.set_cons_succ])
    | ((with_reducible refine at_slot 4 ?_); (refine arm_box (o := ⟨some 4, _, _, _, _, _⟩) rfl _ _ rfl (u8s (digS y.1)) rfl ?_); intro Y v2 Ye hv2 nv2; try simp only [Act.put, List.setIfInBounds_toArray, List.set_cons_zero, List.set_cons_succ]))
  have hbv1 := nv1.beld
  have rrv1 : Row v1 X 32 (u8s (digS x.1)) := hv1
  have hbv2 := nv2.beld
  have rrv2 : Row v2 Y 32 (u8s (digS y.1)) := hv2
  have geX : w.heap.size ≤ X := by have := Xe.out; have := bel0.size; omega
  have lXx : w.heap.size ≤ X := by have := Xe.out; omega
  clear hv1 nv1 Xe
  have A_3 : SAt v1 F S r mb pin E := hS.old hbv1.below
  have B_3 : Row v1 B 24 [.pointer (some ⟨S, 0, none⟩)] := hB.old hbv1.below
  have bel_3 : BelD w.heap.size w v1 := beld_step bel0 bel0.size hbv1
  clear hS hB bel0 hbv1
  have geY : w.heap.size ≤ Y := by have := Ye.out; have := bel_3.size; omega
  have ltXY : X < Y := by have := Ye.out; have := rrv1.lt; omega
  have lYx : v1.heap.size ≤ Y := by have := Ye.out; omega
  clear hv2 nv2 Ye
  have A_4 : SAt v2 F S r mb pin E := A_3.old hbv2.below
  have B_4 : Row v2 B 24 [.pointer (some ⟨S, 0, none⟩)] := B_3.old hbv2.below
  have X_4 : Row v2 X 32 (u8s (digS x.1)) := rrv1.old hbv2.below
  have bel_4 : BelD w.heap.size w v2 := beld_step bel_3 bel_3.size hbv2
  clear A_3 B_3 rrv1 bel_3 hbv2
  refine wp_region_held (S := fun w' => Row w' B 24 [.pointer (some ⟨S, 0, none⟩)] ∧ Row w' X 32 (u8s (digS x.1)) ∧ Row w' Y 32 (u8s (digS y.1)) ∧ True) (by kernel_rfl) ?_
  change wpAnyH _ _ _ _ _ _ _ _ v2.drew
  have hd5 : BelD v2.heap.size v2 v2.drew := (BelD.refl _ _).drew
  have A_6 : SAt v2.drew F S r mb pin E := A_4.old hd5.below
  have B_6 : Row v2.drew B 24 [.pointer (some ⟨S, 0, none⟩)] := B_4.old hd5.below
  have X_6 : Row v2.drew X 32 (u8s (digS x.1)) := X_4.old hd5.below
  have Y_6 : Row v2.drew Y 32 (u8s (digS y.1)) := rrv2.old hd5.below
  have bel_6 : BelD w.heap.size w v2.drew := beld_step bel_4 bel_4.size hd5
  clear A_4 B_4 X_4 rrv2 bel_4 hd5
  generalize v2.drew = yz5 at A_6 B_6 X_6 Y_6 bel_6 ⊢
  refine h_take 0 (.pointer (some ⟨S, 0, none⟩)) rfl 6 rfl (by kernel_rfl) (by kernel_rfl) (by kernel_rfl) (by kernel_rfl) (fun _ _ _ h => h) (fun w' hw => run_op_load1 _ _ rfl (.pointer 78) (by kernel_rfl) rfl ⟨B, 0, none⟩ rfl (.pointer (some ⟨S, 0, none⟩)) (hw.1.cell (i := 0) rfl)) ⟨B_6, X_6, Y_6, trivial⟩ ?_
  simp only [Act.put, List.setIfInBounds_toArray, List.set_cons_zero, List.set_cons_succ]
  refine h_take 1 (.agg (u8s (digS x.1)).toArray) rfl 7 rfl (by kernel_rfl) (by kernel_rfl) (by kernel_rfl) (by kernel_rfl) (fun _ _ _ h => h) (fun w' hw => run_op_load _ _ rfl X (0) rfl (u8s (digS x.1)) (((Has.refl _)).range hw.2.1) ((szH KX.out))) ⟨B_6, X_6, Y_6, trivial⟩ ?_
  simp only [Act.put, List.setIfInBounds_toArray, List.set_cons_zero, List.set_cons_succ]
  refine h_take 3 (.pointer (some ⟨S, 0, none⟩)) rfl 9 rfl (by kernel_rfl) (by kernel_rfl) (by kernel_rfl) (by kernel_rfl) (fun _ _ _ h => h) (fun w' hw => run_op_load1 _ _ rfl (.pointer 78) (by kernel_rfl) rfl ⟨B, 0, none⟩ rfl (.pointer (some ⟨S, 0, none⟩)) (hw.1.cell (i := 0) rfl)) ⟨B_6, X_6, Y_6, trivial⟩ ?_
  simp only [Act.put, List.setIfInBounds_toArray, List.set_cons_zero, List.set_cons_succ]
  refine h_take 4 (.agg (u8s (digS y.1)).toArray) rfl 10 rfl (by kernel_rfl) (by kernel_rfl) (by kernel_rfl) (by kernel_rfl) (fun _ _ _ h => h) (fun w' hw => run_op_load _ _ rfl Y (0) rfl (u8s (digS y.1)) (((Has.refl _)).range hw.2.2.1) ((szH KY.out))) ⟨B_6, X_6, Y_6, trivial⟩ ?_
  simp only [Act.put, List.setIfInBounds_toArray, List.set_cons_zero, List.set_cons_succ]
  refine h_one (i := 2) (by kernel_rfl) (o_call rfl 8 rfl (by kernel_rfl) (run_op_call 31 _ _ rfl #[.pointer (some ⟨S, 0, none⟩), .agg (u8s (digS x.1)).toArray] (by simp only [List.map_toArray, List.map_cons, List.map_nil]; rfl) Tryz.func31 (by kernel_rfl) (by kernel_rfl) _) (CX.out _ A_6) ?_)
  rintro e y7 ⟨rfl, hB⟩
  have A_8 : SAt y7 F S r mb pin E := A_6.old hB.below
  have B_8 : Row y7 B 24 [.pointer (some ⟨S, 0, none⟩)] := B_6.old hB.below
  have X_8 : Row y7 X 32 (u8s (digS x.1)) := X_6.old hB.below
  have Y_8 : Row y7 Y 32 (u8s (digS y.1)) := Y_6.old hB.below
  have bel_8 : BelD w.heap.size w y7 := beld_step bel_6 bel_6.size hB
  clear A_6 B_6 X_6 Y_6 bel_6 hB
  refine ⟨_, rfl, ⟨B_8, X_8, Y_8, trivial⟩, ?_⟩
  simp only [Act.put, List.setIfInBounds_toArray, List.set_cons_zero, List.set_cons_succ]
  refine h_one (i := 5) (by kernel_rfl) (o_call rfl 11 rfl (by kernel_rfl) (run_op_call 31 _ _ rfl #[.pointer (some ⟨S, 0, none⟩), .agg (u8s (digS y.1)).toArray] (by simp only [List.map_toArray, List.map_cons, List.map_nil]; rfl) Tryz.func31 (by kernel_rfl) (by kernel_rfl) _) (CY.out _ A_8) ?_)
  rintro e y9 ⟨rfl, hB⟩
  have A_10 : SAt y9 F S r mb pin E := A_8.old hB.below
  have B_10 : Row y9 B 24 [.pointer (some ⟨S, 0, none⟩)] := B_8.old hB.below
  have X_10 : Row y9 X 32 (u8s (digS x.1)) := X_8.old hB.below
  have Y_10 : Row y9 Y 32 (u8s (digS y.1)) := Y_8.old hB.below
  have bel_10 : BelD w.heap.size w y9 := beld_step bel_8 bel_8.size hB
  clear A_8 B_8 X_8 Y_8 bel_8 hB
  refine ⟨_, rfl, ⟨B_10, X_10, Y_10, trivial⟩, ?_⟩
  simp only [Act.put, List.setIfInBounds_toArray, List.set_cons_zero, List.set_cons_succ]
  refine h_one (i := 6) (by kernel_rfl) (o_call rfl 12 rfl (by kernel_rfl) (run_op_call 43 _ _ rfl #[.agg (kcs (keyN x.1)).toArray, .agg (kcs (keyN y.1)).toArray] (by simp only [List.map_toArray, List.map_cons, List.map_nil]; rfl) Tryz.func43 (by kernel_rfl) (by kernel_rfl) _) (CC.out _) ?_)
  rintro e y11 ⟨rfl, hB⟩
  have A_12 : SAt y11 F S r mb pin E := A_10.old hB.below
  have B_12 : Row y11 B 24 [.pointer (some ⟨S, 0, none⟩)] := B_10.old hB.below
  have X_12 : Row y11 X 32 (u8s (digS x.1)) := X_10.old hB.below
  have Y_12 : Row y11 Y 32 (u8s (digS y.1)) := Y_10.old hB.below
  have bel_12 : BelD w.heap.size w y11 := beld_step bel_10 bel_10.size hB
  clear A_10 B_10 X_10 Y_10 bel_10 hB
  refine ⟨_, rfl, ⟨B_12, X_12, Y_12, trivial⟩, ?_⟩
  simp only [Act.put, List.setIfInBounds_toArray, List.set_cons_zero, List.set_cons_succ]
  refine h_take 7 (.int .i64 z) rfl 5 rfl (by kernel_rfl) (by kernel_rfl) (by kernel_rfl) (by kernel_rfl) (fun _ _ _ h => h) (fun w' _ => by kernel_rfl) ⟨B_12, X_12, Y_12, trivial⟩ ?_
  simp only [Act.put, List.setIfInBounds_toArray, List.set_cons_zero, List.set_cons_succ]
  refine wpAnyH_done (by kernel_rfl) ?_ _
  go_wp2_with fail
  go_ret
  exact ⟨rfl, bel_12⟩
end Go.Proofs.YtnjmocobncncdaaGreatDoor.So

/-
  slices.SortFunc at the store's digests, in the order of their states' keys. Over this seat's translation.
-/
namespace Go.Proofs
open Go.Shelf Go.RowKit
def Tryz.sortD_ren : Go.Shelf.Ren := ⟨fun | 6 => 41 | 15 => 57 | 14 => 56 | 28 => 80 | 29 => 81 | 20 => 72 | 21 => 73 | 22 => 74 | 23 => 75 | 24 => 76 | 25 => 77 | 26 => 78 | 27 => 79 | 46 => 90 | 47 => 91 | 48 => 92 | 49 => 93 | 50 => 94 | 57 => 103 | n => n, fun | 22 => 91 | 24 => 32 | 25 => 109 | 3 => 3 | 39 => 128 | 0 => 0 | 53 => 33 | 55 => 124 | 4 => 4 | 46 => 146 | 45 => 145 | 50 => 150 | 5 => 5 | 9 => 9 | 66 => 165 | 70 => 169 | 76 => 178 | 77 => 179 | n => n, fun | n => n⟩
theorem Tryz.sortD : Go.Proofs.SlLaysF0.n6 Tryz.prog Tryz.sortD_ren := {
  mixed := by kernel_rfl,
  f6 := ⟨Tryz.f41.name, by decide, Tryz.func41.trans (congrArg some (by kernel_rfl))⟩,
  f14 := ⟨Tryz.f56.name, by decide, Tryz.func56.trans (congrArg some (by kernel_rfl))⟩,
  f15 := Tryz.func57.trans (congrArg some (by kernel_rfl)),
  f20 := ⟨Tryz.f72.name, by decide, Tryz.func72.trans (congrArg some (by kernel_rfl))⟩,
  f21 := ⟨Tryz.f73.name, by decide, Tryz.func73.trans (congrArg some (by kernel_rfl))⟩,
  f22 := ⟨Tryz.f74.name, by decide, Tryz.func74.trans (congrArg some (by kernel_rfl))⟩,
  f23 := ⟨Tryz.f75.name, by decide, Tryz.func75.trans (congrArg some (by kernel_rfl))⟩,
  f24 := ⟨Tryz.f76.name, by decide, Tryz.func76.trans (congrArg some (by kernel_rfl))⟩,
  f25 := ⟨Tryz.f77.name, by decide, Tryz.func77.trans (congrArg some (by kernel_rfl))⟩,
  f26 := ⟨Tryz.f78.name, by decide, Tryz.func78.trans (congrArg some (by kernel_rfl))⟩,
  f27 := ⟨Tryz.f79.name, by decide, Tryz.func79.trans (congrArg some (by kernel_rfl))⟩,
  f28 := Tryz.func80.trans (congrArg some (by kernel_rfl)),
  f29 := Tryz.func81.trans (congrArg some (by kernel_rfl)),
  f46 := ⟨Tryz.f90.name, by decide, Tryz.func90.trans (congrArg some (by kernel_rfl))⟩,
  f47 := Tryz.func91.trans (congrArg some (by kernel_rfl)),
  f48 := Tryz.func92.trans (congrArg some (by kernel_rfl)),
  f49 := ⟨Tryz.f93.name, by decide, Tryz.func93.trans (congrArg some (by kernel_rfl))⟩,
  f50 := ⟨Tryz.f94.name, by decide, Tryz.func94.trans (congrArg some (by kernel_rfl))⟩,
  f57 := ⟨Tryz.f103.name, by decide, Tryz.func103.trans (congrArg some (by kernel_rfl))⟩,
  t0 := Tryz.underlying0,
  a0 := Tryz.isAgg0,
  z0 := Tryz.sizeOf0,
  v0 := Tryz.zeroValue0,
  t3 := Tryz.underlying3,
  a3 := Tryz.isAgg3,
  z3 := Tryz.sizeOf3,
  v3 := Tryz.zeroValue3,
  t4 := Tryz.underlying4,
  a4 := Tryz.isAgg4,
  z4 := Tryz.sizeOf4,
  v4 := Tryz.zeroValue4,
  t5 := Tryz.underlying5,
  a5 := Tryz.isAgg5,
  z5 := Tryz.sizeOf5,
  v5 := Tryz.zeroValue5,
  t9 := Tryz.underlying9,
  a9 := Tryz.isAgg9,
  z9 := Tryz.sizeOf9,
  v9 := Tryz.zeroValue9,
  t22 := Tryz.underlying91,
  a22 := Tryz.isAgg91,
  z22 := Tryz.sizeOf91,
  v22 := Tryz.zeroValue91,
  t25 := Tryz.underlying109,
  a25 := Tryz.isAgg109,
  z25 := Tryz.sizeOf109,
  v25 := Tryz.zeroValue109,
  t39 := Tryz.underlying128,
  a39 := Tryz.isAgg128,
  z39 := Tryz.sizeOf128,
  v39 := Tryz.zeroValue128,
  t45 := Tryz.underlying145,
  a45 := Tryz.isAgg145,
  z45 := Tryz.sizeOf145,
  v45 := Tryz.zeroValue145,
  t46 := Tryz.underlying146,
  a46 := Tryz.isAgg146,
  z46 := Tryz.sizeOf146,
  v46 := Tryz.zeroValue146,
  t50 := Tryz.underlying150,
  a50 := Tryz.isAgg150,
  z50 := Tryz.sizeOf150,
  v50 := Tryz.zeroValue150,
  t53 := Tryz.underlying33,
  a53 := Tryz.isAgg33,
  z53 := Tryz.sizeOf33,
  v53 := Tryz.zeroValue33,
  t55 := Tryz.underlying124,
  a55 := Tryz.isAgg124,
  z55 := Tryz.sizeOf124,
  v55 := Tryz.zeroValue124,
  t66 := Tryz.underlying165,
  a66 := Tryz.isAgg165,
  z66 := Tryz.sizeOf165,
  v66 := Tryz.zeroValue165,
  t70 := Tryz.underlying169,
  a70 := Tryz.isAgg169,
  z70 := Tryz.sizeOf169,
  v70 := Tryz.zeroValue169,
  t76 := Tryz.underlying178,
  a76 := Tryz.isAgg178,
  z76 := Tryz.sizeOf178,
  v76 := Tryz.zeroValue178,
  t77 := Tryz.underlying179,
  a77 := Tryz.isAgg179,
  z77 := Tryz.sizeOf179,
  v77 := Tryz.zeroValue179 }
end Go.Proofs
namespace Go.Proofs.YtnjmocobncncdaaGreatDoor.So
open Go.ChangeShapes Go.WideShapes Go.ChangeAt Go.RowKit Go.Proofs.YtnjmocobncncdaaGreatDoor.Mem Go.Proofs.YtnjmocobncncdaaGreatDoor.Bt Go.Proofs.YtnjmocobncncdaaGreatDoor.Km
open Go.Proofs.YtnjmocobncncdaaGreatDoor.Ep (H32 zh zh_ok Has h_len szH zH fitH allH one_app num32)
open Go.Proofs.YtnjmocobncncdaaGreatDoor.Sl (Kind At bk)
open Go.Proofs.YtnjmocobncncdaaGreatDoor.Sa (Sta scs digS digS_ok sz_sta)
open Go.Proofs.YtnjmocobncncdaaGreatDoor.Od (Ky kcs keyN keyN_ok kcs_len kcmp kval cmpN_neg)
open Go.Sort (SWO PermIn SortedIn HoldsK Holds flatK putRowK putRow putCells mapBlock onCells grow get_flatK size_flatK)
set_option linter.unusedVariables false
set_option linter.unusedSimpArgs false

theorem perm_lift {α β : Type} (f : α → β) {l m : List β} (h : l.Perm m) : ∀ {E : List α}, E.map f = m → ∃ E' : List α, E'.map f = l ∧ E'.Perm E := by
  induction h with
  | nil => intro E e; exact ⟨E, e, List.Perm.refl _⟩
  | cons x h ih =>
    intro E e
    cases E with
    | nil => cases e
    | cons a E =>
      simp only [List.map_cons, List.cons.injEq] at e
      obtain ⟨E', h1, h2⟩ := ih e.2
      exact ⟨a :: E', by rw [List.map_cons, h1, e.1], h2.cons a⟩
  | swap x y l =>
    intro E e
    cases E with
    | nil => cases e
    | cons a E =>
      cases E with
      | nil => simp at e
      | cons b E =>
        simp only [List.map_cons, List.cons.injEq] at e
        exact ⟨b :: a :: E, by rw [List.map_cons, List.map_cons, e.1, e.2.1, e.2.2], List.Perm.swap a b E⟩
  | trans h1 h2 ih1 ih2 =>
    intro E e
    obtain ⟨E2, g1, g2⟩ := ih2 e
    obtain ⟨E1, g3, g4⟩ := ih1 g1
    exact ⟨E1, g3, g4.trans g2⟩
theorem lift_sub {α : Type} {P : α → Prop} : ∀ (l : List α), (∀ x ∈ l, P x) → ∃ es : List { x : α // P x }, es.map Subtype.val = l
  | [], _ => ⟨[], rfl⟩
  | x :: l, h => by
    obtain ⟨es, e⟩ := lift_sub l fun y hy => h y (by simp [hy])
    exact ⟨⟨x, h x (by simp)⟩ :: es, by rw [List.map_cons, e]⟩
theorem rise_inj {L : List Sta} (h : Rise vK L) {a b : Sta} (ha : a ∈ L) (hb : b ∈ L) (e : vK a = vK b) : a = b := by
  obtain ⟨i, hi, rfl⟩ := List.mem_iff_getElem.1 ha
  obtain ⟨j, hj, rfl⟩ := List.mem_iff_getElem.1 hb
  rcases Nat.lt_trichotomy i j with q | q | q
  · have := List.pairwise_iff_getElem.1 h i j hi hj q; omega
  · subst q; rfl
  · have := List.pairwise_iff_getElem.1 h j i hj hi q; omega
theorem sorted_is {L M : List Sta} (h : Rise vK L) (hp : M.Perm L) (hs : M.Pairwise fun a b => vK a ≤ vK b) : M = L :=
  List.Perm.eq_of_pairwise (le := fun a b => vK a ≤ vK b) (fun a b ha hb h1 h2 => rise_inj h (hp.mem_iff.1 ha) hb (by omega)) hs (h.imp fun q => Nat.le_of_lt q) hp
section
variable {E : Ents}
abbrev El (E : Ents) := { p : Sta × Nat // p ∈ E }
def encE (x : El E) : List Value := u8s (digS x.1.1)
def cfE (x y : El E) : Int := kcmp (keyN x.1.1) (keyN y.1.1)
theorem enc_len (x : El E) : (encE x).length = 32 := h_len (digS_ok _)
theorem lt_cf (x y : El E) : ltOf cfE x y = decide (vK x.1.1 < vK y.1.1) := by
  unfold ltOf cfE kcmp
  exact decide_eq_decide.2 cmpN_neg
theorem swo_cf : SWO (ltOf (cfE (E := E))) where
  irrefl x := by rw [lt_cf]; simp
  trans x y z h1 h2 := by rw [lt_cf] at *; simp at *; omega
  ntrans x y z h1 h2 := by rw [lt_cf] at *; simp at *; omega
abbrev digE (es : List (El E)) : List (List Nat) := es.map fun x => digS x.1.1
theorem flat_all [Inhabited (El E)] (es : List (El E)) : (flatK encE 32 es.toArray).toList = kD.all (digE es) := by
  have ok : kD.AllOk (digE es) := fun x hx => by
    obtain ⟨y, _, rfl⟩ := List.mem_map.1 hx
    exact digS_ok _
  have hl := Sl.all_len fD _ ok
  rw [List.length_map] at hl
  refine List.ext_getElem ?_ fun t h1 h2 => ?_
  · rw [Array.length_toList, size_flatK, hl]; simp
  · have ht : t < es.length * 32 := by rw [hl] at h2; exact h2
    have hd : t / 32 < es.length := by omega
    have hm : t % 32 < 32 := Nat.mod_lt _ (by omega)
    have e1 : (flatK encE 32 es.toArray)[t]! = (encE es.toArray[t / 32]!)[t % 32]! := get_flatK _ _ _ t (by simpa using ht)
    have e2 : es.toArray[t / 32]! = es[t / 32] := by simp [hd]
    have hx : (digE es)[t / 32]? = some (digS (es[t / 32]).1.1) := by rw [List.getElem?_map, List.getElem?_eq_getElem hd]; rfl
    have hlx : t % 32 < (u8s (digS (es[t / 32]).1.1)).length := by rw [h_len (digS_ok _)]; exact hm
    have e3 := Sl.all_get fD (digE es) ok (t / 32) _ hx (t % 32) _ (List.getElem?_eq_getElem hlx)
    have e4 : t / 32 * kD.n + t % 32 = t := Nat.div_add_mod' t 32
    rw [e4] at e3
    rw [List.getElem?_eq_getElem h2] at e3
    rw [Option.some.inj e3, Array.getElem_toList]
    rw [← getElem!_pos (flatK encE 32 es.toArray) t, e1, e2]
    show (u8s (digS (es[t / 32]).1.1))[t % 32]! = (u8s (digS (es[t / 32]).1.1))[t % 32]
    exact getElem!_pos (u8s (digS (es[t / 32]).1.1)) (t % 32) hlx
theorem own_row {w : World} {base : Nat} {p : Option Addr} {cap : Nat} {ds : List (List Nat)} (h : Sl.Own kD w base p cap ds) (hn : ds ≠ []) :
    ∃ g cur, p = some ⟨g, 0, none⟩ ∧ base ≤ g ∧ w.heap[g]? = some (.cells cur 32 (0, 0)) ∧ ds.length ≤ cap ∧ cap ≤ maxLen ∧ cur.size = cap * 32 ∧ cur.toList.take (ds.length * 32) = kD.all ds := by
  rcases h.own.2 with ⟨_, h0⟩ | ⟨g, cap', cur, hv, hg, hh, h1, h2, h3, h4⟩
  · exact absurd (List.length_eq_zero_iff.1 h0) hn
  · simp only [Value.slice.injEq] at hv
    obtain ⟨rfl, _, rfl⟩ := hv
    exact ⟨g, cur, rfl, hg, hh, h1, h2, h3, h4⟩
theorem put_cells (F c : Array Value) (h : F.size ≤ c.size) : (putCells id 0 F c).size = c.size ∧ (putCells id 0 F c).toList.take F.size = F.toList := by
  unfold putCells
  refine ⟨by simp, List.ext_getElem (by simp; omega) fun t h1 h2 => ?_⟩
  have ht : t < F.size := by simpa using h2
  have ht2 : t < c.size := by omega
  simp [ht]
variable {w : World} {g : Nat} {cur : Array Value} {t : TypeId}
theorem sort_block [Inhabited (El E)] (n : Nat) (d : Array (El E)) (os : Array Obj) (k : Nat) (hk : k < w.heap.size) (hn : k ≠ g) : (sortWorldK encE 32 w g 0 n d os).heap[k]? = w.heap[k]? := by
  unfold sortWorldK grow
  show ((putRowK encE 32 (Sort.ahead w n) g 0 d).heap ++ os)[k]? = _
  have hs : (putRowK encE 32 (Sort.ahead w n) g 0 d).heap.size = w.heap.size := by simp [putRowK, putRow, mapBlock, Sort.ahead]
  rw [Array.getElem?_append_left (by rw [hs]; exact hk)]
  show ((Sort.ahead w n).heap.modify g _)[k]? = _
  rw [Array.getElem?_modify]
  simp [Ne.symm hn, Sort.ahead]
theorem sort_row [Inhabited (El E)] (n : Nat) (d : Array (El E)) (os : Array Obj) (hg : w.heap[g]? = some (.cells cur t (0, 0))) : (sortWorldK encE 32 w g 0 n d os).heap[g]? = some (.cells (putCells id 0 (flatK encE 32 d) cur) t (0, 0)) := by
  have hk := (Array.getElem?_eq_some_iff.1 hg).1
  unfold sortWorldK grow
  show ((putRowK encE 32 (Sort.ahead w n) g 0 d).heap ++ os)[g]? = _
  have hs : (putRowK encE 32 (Sort.ahead w n) g 0 d).heap.size = w.heap.size := by simp [putRowK, putRow, mapBlock, Sort.ahead]
  rw [Array.getElem?_append_left (by rw [hs]; exact hk)]
  show ((Sort.ahead w n).heap.modify g _)[g]? = _
  rw [Array.getElem?_modify]
  simp only [if_true, Sort.ahead, hg, Option.map_some, onCells]
theorem sort_size [Inhabited (El E)] (n : Nat) (d : Array (El E)) (os : Array Obj) : w.heap.size ≤ (sortWorldK encE 32 w g 0 n d os).heap.size := by
  unfold sortWorldK grow
  show w.heap.size ≤ ((putRowK encE 32 (Sort.ahead w n) g 0 d).heap ++ os).size
  rw [Array.size_append, show (putRowK encE 32 (Sort.ahead w n) g 0 d).heap.size = w.heap.size by simp [putRowK, putRow, mapBlock, Sort.ahead]]
  omega
theorem sort_below [Inhabited (El E)] (n : Nat) (d : Array (El E)) (os : Array Obj) {base : Nat} (hb : base ≤ g) (hw : base ≤ w.heap.size) : Below base w (sortWorldK encE 32 w g 0 n d os) :=
  ⟨rfl, rfl, rfl, sort_size n d os, fun k hk => sort_block n d os k (by omega) (by omega)⟩
end
abbrev fnV (B : Nat) : Value := .func (.func 42) #[] #[.pointer (some ⟨B, 0, none⟩)]
theorem sort_any (F : Nat → Prop) (S r mb : Nat) (pin : Option (List Nat)) (E : Ents) (L : List Sta) (B base : Nat) (p : Option Addr) (cap : Nat) (ds : List (List Nat)) (w : World) (hS : SAt w F S r mb pin E) (hF : ∀ k, F k → k < base) (hB : Row w B 24 [.pointer (some ⟨S, 0, none⟩)]) (hBb : B < base) (hw : base ≤ w.heap.size)
    (hO : Sl.Own kD w base p cap ds) (hds : ds.Perm (E.map fun p => digS p.1)) (hL : Rise vK L) (hE : (E.map Prod.fst).Perm L) (hl : L.length ≤ 1000000) :
    Calls Tryz.prog 41 #[.slice p ds.length cap, fnV B] w fun e w' => e = .returned (.tuple #[]) ∧ Sl.Own kD w' base p cap (L.map digS) ∧ Below base w w' := by
  obtain ⟨E', he1, he2⟩ := perm_lift (fun p : Sta × Nat => digS p.1) hds rfl
  have hlen : ds.length = L.length := by rw [← he1, List.length_map, he2.length_eq, ← hE.length_eq, List.length_map]
  by_cases hn : ds = []
  · subst hn
    have hL0 : L = [] := List.length_eq_zero_iff.1 hlen.symm
    subst hL0
    refine (AnyF.slices_SortFunc_none Tryz.sortD p cap (fnV B) w).mono ?_
    rintro e w' ⟨rfl, rfl⟩
    exact ⟨rfl, hO, Below.refl _ _⟩
  · obtain ⟨g, cur, rfl, hg, hcur, hcap, hmx, hsz, htk⟩ := own_row hO hn
    have hmem : ∀ q ∈ E', q ∈ E := fun q hq => he2.mem_iff.1 hq
    obtain ⟨es, hes⟩ : ∃ es : List (El E), es.map Subtype.val = E' := lift_sub E' hmem
    have hesl : es.length = ds.length := by rw [← he1, ← hes, List.length_map, List.length_map]
    have hdig : digE es = ds := by rw [← he1, ← hes, List.map_map]; rfl
    have hin : ∃ x, x ∈ es := by
      cases es with
      | nil => exact absurd (List.length_eq_zero_iff.1 hesl.symm) hn
      | cons x es => exact ⟨x, by simp⟩
    obtain ⟨x0, _⟩ := hin
    letI : Inhabited (El E) := ⟨x0⟩
    have hflat := flat_all es
    rw [hdig] at hflat
    have hfs : (flatK encE 32 es.toArray).size = ds.length * 32 := by rw [size_flatK, List.size_toArray, hesl]
    have hgl := (Array.getElem?_eq_some_iff.1 hcur).1
    have hH : HoldsK encE 32 w g 0 es.toArray := fun j hj => by
      rw [hfs] at hj
      have hle : ds.length * 32 ≤ cap * 32 := Nat.mul_le_mul_right 32 hcap
      have h1 : cur[j]? = some (flatK encE 32 es.toArray)[j]! := by
        have h2 : (cur.toList.take (ds.length * 32))[j]? = cur.toList[j]? := List.getElem?_take_of_lt hj
        rw [htk, ← hflat] at h2
        rw [← Array.getElem?_toList, ← h2, Array.getElem?_toList, Array.getElem?_eq_getElem (by rw [hfs]; exact hj), getElem!_pos]
      exact ⟨by simp [World.cell?, hcur, h1], by simp [World.frozen?, hcur]⟩
    have hcmp : CmpLays Tryz.prog 42 #[.pointer (some ⟨B, 0, none⟩)] encE 32 cfE g 0 es.toArray.size w := fun m os dk hdk x y => by
      have hbl : ∀ k, k < base → (sortWorldK (encE (E := E)) 32 w g 0 m dk os).heap[k]? = w.heap[k]? := fun k hk => sort_block m dk os k (by omega) (by omega)
      exact (byKey_any F S r mb pin E x.1 y.1 B _ (hS.of_same (sort_size m dk os) fun k hk => hbl k (hF k hk)) (hB.of_block (hbl B hBb)) x.2 y.2).mono fun e w' h => ⟨h.1, h.2.grown⟩
    have hsmall : es.toArray.size < 4611686018427387904 := by rw [List.size_toArray, hesl]; omega
    have hcon := AnyQ.slices_SortFunc (α := El E) Tryz.sortD 32 Tryz.isAgg32 Tryz.sizeOf32 encE enc_len (fun x => u8s_one _) cfE swo_cf 42 #[.pointer (some ⟨B, 0, none⟩)] g 0 cap es.toArray w (enters_of Tryz.func42 (by kernel_rfl) rfl) hcmp hH hgl hsmall
    rw [List.size_toArray, hesl] at hcon
    refine hcon.mono ?_
    rintro e w' ⟨rfl, d', n, os, hperm, hsort, rfl⟩
    obtain ⟨hd1, hd2, hd3⟩ := hperm
    have hds' : d'.size = ds.length := by rw [hd1, List.size_toArray, hesl]
    have hpm : d'.toList.Perm es := by
      rw [Array.extract_eq_self_of_le (by omega), Array.extract_eq_self_of_le (by rw [List.size_toArray]; omega)] at hd3
      exact hd3
    have hM : d'.toList.map (fun x => x.1.1) = L := by
      refine sorted_is hL ?_ ?_
      · refine ((hpm.map _).trans ?_).trans hE
        have : es.map (fun x => x.1.1) = E'.map Prod.fst := by rw [← hes, List.map_map]; rfl
        rw [this]
        exact he2.map _
      · rw [List.pairwise_map, List.pairwise_iff_getElem]
        intro i j hi hj hij
        have hj' : j < d'.size := by simpa using hj
        have := hsort i j (Nat.zero_le _) hij (by omega)
        rw [getElem!_pos d' j hj', getElem!_pos d' i (by omega), lt_cf] at this
        simp only [decide_eq_false_iff_not, Nat.not_lt] at this
        simpa using this
    have hdl : digE d'.toList = L.map digS := by rw [← hM, List.map_map]; rfl
    have hfl : (flatK (encE (E := E)) 32 d').toList = kD.all (L.map digS) := by rw [← hdl, ← flat_all d'.toList]
    have hfs' : (flatK (encE (E := E)) 32 d').size = ds.length * 32 := by rw [size_flatK, hds']
    have hle : ds.length * 32 ≤ cap * 32 := Nat.mul_le_mul_right 32 hcap
    obtain ⟨q1, q2⟩ := put_cells (flatK (encE (E := E)) 32 d') cur (by omega)
    have hok : kD.AllOk (L.map digS) := fun x hx => by
      obtain ⟨y, _, rfl⟩ := List.mem_map.1 hx
      exact digS_ok _
    refine ⟨rfl, ⟨⟨Sl.all_len fD _ hok, .inr ⟨g, cap, _, rfl, hg, sort_row (E := E) n d' os hcur, by rw [List.length_map]; omega, hmx, by rw [q1, hsz], ?_⟩⟩, hok⟩, sort_below (E := E) n d' os hg hw⟩
    rw [List.length_map, ← hlen, ← hfl, ← q2, hfs']
end Go.Proofs.YtnjmocobncncdaaGreatDoor.So

/-
  The contracts of the store's rising (all digests by their states' keys) and least (the one that is given up). Over this seat's translation.
-/
namespace Go.Proofs.YtnjmocobncncdaaGreatDoor.So
open Go.ChangeShapes Go.WideShapes Go.ChangeAt Go.RowKit Go.Proofs.YtnjmocobncncdaaGreatDoor.Mem Go.Proofs.YtnjmocobncncdaaGreatDoor.Bt Go.Proofs.YtnjmocobncncdaaGreatDoor.Km
open Go.Proofs.YtnjmocobncncdaaGreatDoor.Ep (H32 zh zh_ok Has h_len szH zH fitH allH one_app num32)
open Go.Proofs.YtnjmocobncncdaaGreatDoor.Sl (Kind At bk)
open Go.Proofs.YtnjmocobncncdaaGreatDoor.Sa (Sta scs digS digS_ok sz_sta h_drw h_lngth)
open Go.Proofs.YtnjmocobncncdaaGreatDoor.Od (Ky kcs keyN keyN_ok kcs_len kcs_one kcmp kval zk z_key sz_key fitK allK built_key compare_anyD)
set_option linter.unusedVariables false
set_option linter.unusedSimpArgs false

theorem pcs_34 {r mb : Nat} {pin : Option (List Nat)} (h : H32 (pin.getD zh)) : (pcs r mb pin)[34]? = some (.bool pin.isSome) := by
  have hl := h_len h
  unfold pcs
  rw [List.getElem?_append_right (by rw [List.length_append, hl]; exact Nat.le_refl _), List.length_append, hl]
  rfl
theorem pcs_2 {r mb : Nat} {pin : Option (List Nat)} : Has (pcs r mb pin) 2 (u8s (pin.getD zh)) := ⟨_, _, by unfold pcs; rw [List.append_assoc], rfl⟩
theorem at_range {w : World} {g i : Nat} {l : List (List Nat)} {x : List Nat} (h : Sl.At kD w (some ⟨g, 0, none⟩) l) (hi : l[i]? = some x) : w.rangeAt g (0 + i * 32) (u8s x) := by
  obtain ⟨g', o', e, _, hr⟩ := h.at_ i _ hi
  obtain ⟨rfl, rfl⟩ : g = g' ∧ 0 = o' := by simpa using e
  exact hr
theorem keysP_any (mb : Nat) (w : World) : Calls Tryz.prog 40 #[.map (some mb)] w fun e w' => ∃ K, e = .returned (.func (.func 55) #[] #[.pointer (some ⟨K, 0, none⟩)]) ∧ Row w' K 76 [.map (some mb)] ∧ Below w.heap.size w w' :=
  (keys_any mb w).mono fun e w' ⟨h1, h2⟩ => ⟨w.heap.size, h1, by rw [h2]; exact heap_alloc_new _ _, by rw [h2]; exact (new_alloc _ _).below⟩
structure RisePost (w : World) (L : List Sta) (e : Ending) (w' : World) : Prop where
  ret : ∃ p cap, e = .returned (.slice p L.length cap) ∧ Sl.Own kD w' w.heap.size p cap (L.map digS)
  bel : Below w.heap.size w w'
set_option maxHeartbeats 4000000 in
set_option maxRecDepth 100000 in
theorem rising_any (F : Nat → Prop) (S r mb : Nat) (pin : Option (List Nat)) (E : Ents) (L : List Sta) (w : World) (hS : SAt w F S r mb pin E) (hL : Rise vK L) (hE : (E.map Prod.fst).Perm L) (hl : L.length ≤ 1000) :
    Calls Tryz.prog 30 #[.pointer (some ⟨S, 0, none⟩)] w (RisePost w L) := by
  have HEL : Hid (∀ ds : List (List Nat), ds.Perm ((E.map entD).map Prod.fst) → ds.Perm (E.map fun p => digS p.1) ∧ ds.length = L.length) := Lib.hid fun ds h => by
    rw [List.map_map] at h
    exact ⟨h, by rw [h.length_eq, List.length_map, ← hE.length_eq, List.length_map]⟩
  have HLL : Hid ((E.map entD).length ≤ 1000000) := Lib.hid (by rw [List.length_map, ← List.length_map (f := Prod.fst), hE.length_eq]; omega)
  have EH := Lib.hid (ent_hash hS)
  have CS := Lib.hid (fun B base p cap ds w0 a1 a2 a3 a4 a5 a6 a7 => sort_any F S r mb pin E L B base p cap ds w0 a1 a2 a3 a4 a5 a6 a7 hL hE (by omega))
  clear hL hE hl
  go_enter Tryz.func30, Tryz.ntmps30
  have bel0 : Chg (fun _ => False) w w := Chg.refl _ _
  go_wp2_with (first
    | ((with_reducible refine at_slot 1 ?_); (refine arm_box1 (o := ⟨some 1, _, _, _, _, _⟩) rfl _ _ rfl (.pointer (some ⟨S, 0, none⟩)) rfl rfl ?_); intro B v1 Be hv1 nv1; try simp only [Act.put, List.setIfInBounds_toArray, List.set_cons_zero, List.set_cons_succ])
    | ((with_reducible refine at_slot 4 ?_); (refine arm_want (.pointer (some ⟨S, 0, none⟩)) 4 rfl (by kernel_rfl) (run_op_load1 _ _ rfl (.pointer 78) (by kernel_rfl) rfl ⟨B, 0, none⟩ rfl (.pointer (some ⟨S, 0, none⟩)) (hv1.cell rfl)) ?_); try simp only [Act.put, List.setIfInBounds_toArray, List.set_cons_zero, List.set_cons_succ])
    | ((with_reducible refine at_slot 7 ?_); (refine arm_want (.map (some mb)) 7 rfl (by kernel_rfl) (run_op_load1 _ _ rfl (.map 32 87) (by kernel_rfl) rfl ⟨S, 1, none⟩ rfl (.map (some mb)) ((hS.row.old nv1.below).cell (i := 1) rfl)) ?_); try simp only [Act.put, List.setIfInBounds_toArray, List.set_cons_zero, List.set_cons_succ]))
  have hbv1 := nv1.below
  have rrv1 : Row v1 B 24 ([.pointer (some ⟨S, 0, none⟩)]) := hv1
  have geB : w.heap.size ≤ B := by have := Be.out; have := bel0.size; omega
  have lBx : w.heap.size ≤ B := by have := Be.out; omega
  clear hv1 nv1 Be
  have A_2 : SAt v1 F S r mb pin E := hS.old hbv1
  have bel_2 : Chg (fun _ => False) w v1 := bel0.old hbv1
  clear hS bel0 hbv1
  refine (keysP_any mb _).mono ?_
  rintro e y3 ⟨K, rfl, rK, hB⟩
  have A_4 : SAt y3 F S r mb pin E := A_2.old hB
  have B_4 : Row y3 B 24 ([.pointer (some ⟨S, 0, none⟩)]) := rrv1.old hB
  have bel_4 : Chg (fun _ => False) w y3 := bel_2.old hB
  clear A_2 rrv1 bel_2 hB
  go_wp2_with fail
  have hFb := A_4.lies
  have hBb := B_4.lt
  have HW := Lib.hid (bel_4.below (fun k hk => hk.elim) (Nat.le_refl w.heap.size))
  refine (collect_any ptrV (E.map entD) EH.out HLL.out K mb _ rK A_4.map).mono ?_
  rintro e y5 ⟨ds, p, cap, rfl, hds, hO, hB⟩
  obtain ⟨hd1, hd2⟩ := HEL.out ds hds
  have HD2 := Lib.hid hd2
  clear hd2
  have hsz := hB.size
  have HB2 := Lib.hid hB
  clear hds
  have A_6 : SAt y5 F S r mb pin E := A_4.old hB
  have B_6 : Row y5 B 24 ([.pointer (some ⟨S, 0, none⟩)]) := B_4.old hB
  have K_6 : Row y5 K 76 [.map (some mb)] := rK.old hB
  have bel_6 : Chg (fun _ => False) w y5 := bel_4.old hB
  clear A_4 B_4 rK bel_4 hB
  go_wp2_with fail
  refine (CS.out B y3.heap.size p cap ds _ A_6 hFb B_6 hBb hsz hO hd1).mono ?_
  rintro e y9 ⟨rfl, hO2, hb2⟩
  go_wp2_with fail
  go_ret
  exact ⟨⟨p, cap, congrArg (fun n => Ending.returned (Value.slice p n cap)) HD2.out, Sl.Own.low hO2 HW.out.size⟩, HW.out.trans ((HB2.out.mono HW.out.size).trans (hb2.mono HW.out.size))⟩
theorem run_op_eqlW {o : Oper} {a : Act} (x y : Operand) (t' : TypeId) (ho : o.op = .binOp .eql 32 x y t') (xs ys : List Nat) (hlx : H32 xs) (hly : H32 ys) (hx : a.eval x = .agg (u8s xs).toArray) (hy : a.eval y = .agg (u8s ys).toArray) (b : Bool) (hb : decide (xs = ys) = b) (w : World) : (execOp a.eval o).run Tryz.prog w = .ok (.value (.bool b)) w := by
  subst hb
  exact Sha.run_op_eql2 x y t' ho xs ys hlx.len hly.len hx hy w
set_option maxHeartbeats 4000000 in
set_option maxRecDepth 100000 in
theorem least_any (F : Nat → Prop) (S r mb : Nat) (pin : Option (List Nat)) (E : Ents) (L : List Sta) (w : World) (hS : SAt w F S r mb pin E) (hL : Rise vK L) (hE : (E.map Prod.fst).Perm L) (hl : L.length ≤ 1000) (x0 x1 : Sta) (h0 : L[0]? = some x0) (h1 : L[1]? = some x1) :
    Calls Tryz.prog 37 #[.pointer (some ⟨S, 0, none⟩)] w fun e w' => e = .returned (.agg (u8s (if pin = some (digS x0) then digS x1 else digS x0)).toArray) ∧ Below w.heap.size w w' := by
  have CR := Lib.hid (fun w0 a => rising_any F S r mb pin E L w0 a hL hE hl)
  have K0 := Lib.hid (digS_ok x0); have K1 := Lib.hid (digS_ok x1)
  have PO := Lib.hid (pin_ok' hS.pok)
  have HL2 : Hid (1 < L.length) := Lib.hid (List.getElem?_eq_some_iff.1 h1).1
  have HD0 : Hid ((L.map digS)[0]? = some (digS x0)) := Lib.hid (by rw [List.getElem?_map, h0]; rfl)
  have HD1 : Hid ((L.map digS)[1]? = some (digS x1)) := Lib.hid (by rw [List.getElem?_map, h1]; rfl)
  clear hL hE hl h0 h1
  cases pin with
  | none =>
    have HC : Hid (¬ (none : Option (List Nat)) = some (digS x0)) := Lib.hid (fun q => (by cases q))
    go_enter Tryz.func37, Tryz.ntmps37
    have bel0 : Chg (fun _ => False) w w := Chg.refl _ _
    go_wp2_with (first
      | ((with_reducible refine at_slot 2 ?_); (refine arm_alloc (o := ⟨some 2, _, _, _, _, _⟩) rfl _ rfl (u8s zh) zH ?_); intro R v1 Re hv1 nv1; try simp only [Act.put, List.setIfInBounds_toArray, List.set_cons_zero, List.set_cons_succ]))
    have hbv1 := nv1.below
    have rrv1 : Row v1 R 32 (u8s zh) := hv1
    have geR : w.heap.size ≤ R := by have := Re.out; have := bel0.size; omega
    have lRx : w.heap.size ≤ R := by have := Re.out; omega
    clear hv1 nv1 Re
    have A_2 : SAt v1 F S r mb none E := hS.old hbv1
    have bel_2 : Chg (fun _ => False) w v1 := bel0.old hbv1
    clear hS bel0 hbv1
    refine (CR.out _ A_2).mono ?_
    rintro e y3 ⟨⟨p, cap, rfl, hO⟩, hB⟩
    have HO := Lib.hid hO
    clear hO
    have A_4 : SAt y3 F S r mb none E := A_2.old hB
    have R_4 : Row y3 R 32 (u8s zh) := rrv1.old hB
    have bel_4 : Chg (fun _ => False) w y3 := bel_2.old hB
    clear A_2 rrv1 bel_2 hB
    obtain ⟨g, cur, rfl, hg, hcur, hcap, hmx, hsz, htk⟩ := own_row HO.out (by intro e; rw [e] at HD0; exact absurd HD0.out (by simp))
    have hAt := HO.out.at fD
    clear hcur hcap hmx hsz htk hg
    have lL : (0 : Nat) < L.length := by have := HL2.out; omega
    have lL1 : (1 : Nat) < L.length := HL2.out
    have hrow := A_4.row
    go_wp2_with fail
    refine wp_region_held (S := fun w' => Row w' S 78 (pcs r mb none) ∧ Sl.At kD w' (some ⟨g, 0, none⟩) (L.map digS) ∧ True) (by kernel_rfl) ?_
    change wpAnyH _ _ _ _ _ _ _ _ y3.drew
    have hd5 : Below y3.heap.size y3 y3.drew := (Below.refl _ _).drew
    have A_6 : SAt y3.drew F S r mb none E := A_4.old hd5
    have R_6 : Row y3.drew R 32 (u8s zh) := R_4.old hd5
    have O_6 : Sl.At kD y3.drew (some ⟨g, 0, none⟩) (L.map digS) := hAt.below hd5
    have S_6 : Row y3.drew S 78 (pcs r mb none) := hrow.old hd5
    have bel_6 : Chg (fun _ => False) w y3.drew := bel_4.old hd5
    clear A_4 R_4 hAt hrow bel_4 hd5
    generalize y3.drew = yz5 at A_6 R_6 O_6 S_6 bel_6 ⊢
    refine h_take 0 (.pointer (some ⟨S, 0, none⟩)) rfl 6 rfl (by kernel_rfl) (by kernel_rfl) (by kernel_rfl) (by kernel_rfl) (fun _ _ _ h => h) (fun w' _ => by kernel_rfl) ⟨S_6, O_6, trivial⟩ ?_
    simp only [Act.put, List.setIfInBounds_toArray, List.set_cons_zero, List.set_cons_succ]
    refine h_take 1 (.pointer (some ⟨S, 0, none⟩)) rfl 7 rfl (by kernel_rfl) (by kernel_rfl) (by kernel_rfl) (by kernel_rfl) (fun _ _ _ h => h) (fun w' _ => by kernel_rfl) ⟨S_6, O_6, trivial⟩ ?_
    simp only [Act.put, List.setIfInBounds_toArray, List.set_cons_zero, List.set_cons_succ]
    refine h_take 2 (.pointer (some ⟨S, 34, none⟩)) rfl 8 rfl (by kernel_rfl) (by kernel_rfl) (by kernel_rfl) (by kernel_rfl) (fun _ _ _ h => h) (fun w' _ => by kernel_rfl) ⟨S_6, O_6, trivial⟩ ?_
    simp only [Act.put, List.setIfInBounds_toArray, List.set_cons_zero, List.set_cons_succ]
    refine h_take 3 (.bool false) rfl 9 rfl (by kernel_rfl) (by kernel_rfl) (by kernel_rfl) (by kernel_rfl) (fun _ _ _ h => h) (fun w' hw => run_op_load1 _ _ rfl (.bool) (by kernel_rfl) rfl ⟨S, 34, none⟩ rfl (.bool false) (hw.1.cell (pcs_34 (pin := none) PO.out))) ⟨S_6, O_6, trivial⟩ ?_
    simp only [Act.put, List.setIfInBounds_toArray, List.set_cons_zero, List.set_cons_succ]
    refine h_take 4 (.bool false) rfl 10 rfl (by kernel_rfl) (by kernel_rfl) (by kernel_rfl) (by kernel_rfl) (fun _ _ _ h => h) (fun w' _ => by kernel_rfl) ⟨S_6, O_6, trivial⟩ ?_
    simp only [Act.put, List.setIfInBounds_toArray, List.set_cons_zero, List.set_cons_succ]
    refine h_pass 5 rfl 11 rfl (by kernel_rfl) (by kernel_rfl) (by kernel_rfl) (by kernel_rfl) (fun _ _ _ h => h) ⟨S_6, O_6, trivial⟩ ?_
    simp only [Act.put, List.setIfInBounds_toArray, List.set_cons_zero, List.set_cons_succ]
    refine h_pass 6 rfl 12 rfl (by kernel_rfl) (by kernel_rfl) (by kernel_rfl) (by kernel_rfl) (fun _ _ _ h => h) ⟨S_6, O_6, trivial⟩ ?_
    simp only [Act.put, List.setIfInBounds_toArray, List.set_cons_zero, List.set_cons_succ]
    refine h_pass 7 rfl 13 rfl (by kernel_rfl) (by kernel_rfl) (by kernel_rfl) (by kernel_rfl) (fun _ _ _ h => h) ⟨S_6, O_6, trivial⟩ ?_
    simp only [Act.put, List.setIfInBounds_toArray, List.set_cons_zero, List.set_cons_succ]
    refine h_pass 8 rfl 14 rfl (by kernel_rfl) (by kernel_rfl) (by kernel_rfl) (by kernel_rfl) (fun _ _ _ h => h) ⟨S_6, O_6, trivial⟩ ?_
    simp only [Act.put, List.setIfInBounds_toArray, List.set_cons_zero, List.set_cons_succ]
    refine h_pass 9 rfl 15 rfl (by kernel_rfl) (by kernel_rfl) (by kernel_rfl) (by kernel_rfl) (fun _ _ _ h => h) ⟨S_6, O_6, trivial⟩ ?_
    simp only [Act.put, List.setIfInBounds_toArray, List.set_cons_zero, List.set_cons_succ]
    refine h_pass 10 rfl 16 rfl (by kernel_rfl) (by kernel_rfl) (by kernel_rfl) (by kernel_rfl) (fun _ _ _ h => h) ⟨S_6, O_6, trivial⟩ ?_
    simp only [Act.put, List.setIfInBounds_toArray, List.set_cons_zero, List.set_cons_succ]
    refine h_pass 11 rfl 17 rfl (by kernel_rfl) (by kernel_rfl) (by kernel_rfl) (by kernel_rfl) (fun _ _ _ h => h) ⟨S_6, O_6, trivial⟩ ?_
    simp only [Act.put, List.setIfInBounds_toArray, List.set_cons_zero, List.set_cons_succ]
    refine h_pass 12 rfl 18 rfl (by kernel_rfl) (by kernel_rfl) (by kernel_rfl) (by kernel_rfl) (fun _ _ _ h => h) ⟨S_6, O_6, trivial⟩ ?_
    simp only [Act.put, List.setIfInBounds_toArray, List.set_cons_zero, List.set_cons_succ]
    refine h_take 13 (.bool false) rfl 19 rfl (by kernel_rfl) (by kernel_rfl) (by kernel_rfl) (by kernel_rfl) (fun _ _ _ h => h) (fun w' _ => by kernel_rfl) ⟨S_6, O_6, trivial⟩ ?_
    simp only [Act.put, List.setIfInBounds_toArray, List.set_cons_zero, List.set_cons_succ]
    refine wpAnyH_done (by kernel_rfl) ?_ _
    go_wp2_with (first
      | ((with_reducible refine at_slot 24 ?_); (refine arm_want (.pointer (some ⟨g, 0 + 0 * 32, none⟩)) 24 rfl (by kernel_rfl) (Sl.run_op_index fD _ _ rfl g 0 _ _ rfl .i64 _ rfl 0 rfl lL _) ?_); try simp only [Act.put, List.setIfInBounds_toArray, List.set_cons_zero, List.set_cons_succ])
      | ((with_reducible refine at_slot 25 ?_); (refine arm_load (o := ⟨some 25, _, _, _, _, _⟩) rfl _ _ rfl g (0 + 0 * 32) rfl (u8s (digS x0)) (at_range O_6 HD0.out) (szH K0.out) ?_); try simp only [Act.put, List.setIfInBounds_toArray, List.set_cons_zero, List.set_cons_succ])
      | ((with_reducible refine arm_store (o := ⟨none, _, _, _, _, _⟩) rfl _ _ _ rfl R 0 rfl (u8s (digS x0)) rfl _ _ (R_6) (fitH K0.out) (u8s_one _) (szH K0.out) ?_); intro y8 hy8 oy8 sy8; try simp only [Act.put, List.setIfInBounds_toArray, List.set_cons_zero, List.set_cons_succ]))
    have rR8 : Row y8 R 32 (u8s (digS x0)) := hy8.congr (allH K0.out)
    have hb8 := bel_6.new oy8 (geR)
    exact bodyPost_ret (v := .agg (u8s (digS x0)).toArray) (result_row (p := 2) (ty := 32) (u := 32) (by kernel_rfl) _ _ R (u8s (digS x0)) rfl rR8 (szH K0.out)) rfl ⟨by first | rfl | rw [if_neg HC.out], hb8.below (fun k hk => hk.elim) (Nat.le_refl _)⟩
  | some h =>
    by_cases hv : digS x0 = h
    · have HV : Hid (decide (digS x0 = h) = true) := Lib.hid (decide_eq_true hv)
      have HC : Hid (some h = some (digS x0)) := Lib.hid (by rw [hv])
      clear hv
      go_enter Tryz.func37, Tryz.ntmps37
      have bel0 : Chg (fun _ => False) w w := Chg.refl _ _
      go_wp2_with (first
        | ((with_reducible refine at_slot 2 ?_); (refine arm_alloc (o := ⟨some 2, _, _, _, _, _⟩) rfl _ rfl (u8s zh) zH ?_); intro R v1 Re hv1 nv1; try simp only [Act.put, List.setIfInBounds_toArray, List.set_cons_zero, List.set_cons_succ]))
      have hbv1 := nv1.below
      have rrv1 : Row v1 R 32 (u8s zh) := hv1
      have geR : w.heap.size ≤ R := by have := Re.out; have := bel0.size; omega
      have lRx : w.heap.size ≤ R := by have := Re.out; omega
      clear hv1 nv1 Re
      have A_2 : SAt v1 F S r mb (some h) E := hS.old hbv1
      have bel_2 : Chg (fun _ => False) w v1 := bel0.old hbv1
      clear hS bel0 hbv1
      refine (CR.out _ A_2).mono ?_
      rintro e y3 ⟨⟨p, cap, rfl, hO⟩, hB⟩
      have HO := Lib.hid hO
      clear hO
      have A_4 : SAt y3 F S r mb (some h) E := A_2.old hB
      have R_4 : Row y3 R 32 (u8s zh) := rrv1.old hB
      have bel_4 : Chg (fun _ => False) w y3 := bel_2.old hB
      clear A_2 rrv1 bel_2 hB
      obtain ⟨g, cur, rfl, hg, hcur, hcap, hmx, hsz, htk⟩ := own_row HO.out (by intro e; rw [e] at HD0; exact absurd HD0.out (by simp))
      have hAt := HO.out.at fD
      clear hcur hcap hmx hsz htk hg
      have lL : (0 : Nat) < L.length := by have := HL2.out; omega
      have lL1 : (1 : Nat) < L.length := HL2.out
      have hrow := A_4.row
      go_wp2_with fail
      refine wp_region_held (S := fun w' => Row w' S 78 (pcs r mb (some h)) ∧ Sl.At kD w' (some ⟨g, 0, none⟩) (L.map digS) ∧ True) (by kernel_rfl) ?_
      change wpAnyH _ _ _ _ _ _ _ _ y3.drew
      have hd5 : Below y3.heap.size y3 y3.drew := (Below.refl _ _).drew
      have A_6 : SAt y3.drew F S r mb (some h) E := A_4.old hd5
      have R_6 : Row y3.drew R 32 (u8s zh) := R_4.old hd5
      have O_6 : Sl.At kD y3.drew (some ⟨g, 0, none⟩) (L.map digS) := hAt.below hd5
      have S_6 : Row y3.drew S 78 (pcs r mb (some h)) := hrow.old hd5
      have bel_6 : Chg (fun _ => False) w y3.drew := bel_4.old hd5
      clear A_4 R_4 hAt hrow bel_4 hd5
      generalize y3.drew = yz5 at A_6 R_6 O_6 S_6 bel_6 ⊢
      refine h_take 0 (.pointer (some ⟨S, 0, none⟩)) rfl 6 rfl (by kernel_rfl) (by kernel_rfl) (by kernel_rfl) (by kernel_rfl) (fun _ _ _ h => h) (fun w' _ => by kernel_rfl) ⟨S_6, O_6, trivial⟩ ?_
      simp only [Act.put, List.setIfInBounds_toArray, List.set_cons_zero, List.set_cons_succ]
      refine h_take 1 (.pointer (some ⟨S, 0, none⟩)) rfl 7 rfl (by kernel_rfl) (by kernel_rfl) (by kernel_rfl) (by kernel_rfl) (fun _ _ _ h => h) (fun w' _ => by kernel_rfl) ⟨S_6, O_6, trivial⟩ ?_
      simp only [Act.put, List.setIfInBounds_toArray, List.set_cons_zero, List.set_cons_succ]
      refine h_take 2 (.pointer (some ⟨S, 34, none⟩)) rfl 8 rfl (by kernel_rfl) (by kernel_rfl) (by kernel_rfl) (by kernel_rfl) (fun _ _ _ h => h) (fun w' _ => by kernel_rfl) ⟨S_6, O_6, trivial⟩ ?_
      simp only [Act.put, List.setIfInBounds_toArray, List.set_cons_zero, List.set_cons_succ]
      refine h_take 3 (.bool true) rfl 9 rfl (by kernel_rfl) (by kernel_rfl) (by kernel_rfl) (by kernel_rfl) (fun _ _ _ h => h) (fun w' hw => run_op_load1 _ _ rfl (.bool) (by kernel_rfl) rfl ⟨S, 34, none⟩ rfl (.bool true) (hw.1.cell (pcs_34 (pin := some h) PO.out))) ⟨S_6, O_6, trivial⟩ ?_
      simp only [Act.put, List.setIfInBounds_toArray, List.set_cons_zero, List.set_cons_succ]
      refine h_take 4 (.bool true) rfl 10 rfl (by kernel_rfl) (by kernel_rfl) (by kernel_rfl) (by kernel_rfl) (fun _ _ _ h => h) (fun w' _ => by kernel_rfl) ⟨S_6, O_6, trivial⟩ ?_
      simp only [Act.put, List.setIfInBounds_toArray, List.set_cons_zero, List.set_cons_succ]
      refine h_take 5 (.slice (some ⟨g, 0, none⟩) L.length cap) rfl 11 rfl (by kernel_rfl) (by kernel_rfl) (by kernel_rfl) (by kernel_rfl) (fun _ _ _ h => h) (fun w' _ => by kernel_rfl) ⟨S_6, O_6, trivial⟩ ?_
      simp only [Act.put, List.setIfInBounds_toArray, List.set_cons_zero, List.set_cons_succ]
      refine h_take 6 (.pointer (some ⟨g, 0 + 0 * 32, none⟩)) rfl 12 rfl (by kernel_rfl) (by kernel_rfl) (by kernel_rfl) (by kernel_rfl) (fun _ _ _ h => h) (fun w' _ => Sl.run_op_index fD _ _ rfl g 0 _ _ rfl .i64 _ rfl 0 rfl lL w') ⟨S_6, O_6, trivial⟩ ?_
      simp only [Act.put, List.setIfInBounds_toArray, List.set_cons_zero, List.set_cons_succ]
      refine h_take 7 (.agg (u8s (digS x0)).toArray) rfl 13 rfl (by kernel_rfl) (by kernel_rfl) (by kernel_rfl) (by kernel_rfl) (fun _ _ _ h => h) (fun w' hw => run_op_load _ _ rfl g (0 + 0 * 32) rfl (u8s (digS x0)) (at_range hw.2.1 HD0.out) (szH K0.out)) ⟨S_6, O_6, trivial⟩ ?_
      simp only [Act.put, List.setIfInBounds_toArray, List.set_cons_zero, List.set_cons_succ]
      refine h_take 8 (.pointer (some ⟨S, 0, none⟩)) rfl 14 rfl (by kernel_rfl) (by kernel_rfl) (by kernel_rfl) (by kernel_rfl) (fun _ _ _ h => h) (fun w' _ => by kernel_rfl) ⟨S_6, O_6, trivial⟩ ?_
      simp only [Act.put, List.setIfInBounds_toArray, List.set_cons_zero, List.set_cons_succ]
      refine h_take 9 (.pointer (some ⟨S, 0, none⟩)) rfl 15 rfl (by kernel_rfl) (by kernel_rfl) (by kernel_rfl) (by kernel_rfl) (fun _ _ _ h => h) (fun w' _ => by kernel_rfl) ⟨S_6, O_6, trivial⟩ ?_
      simp only [Act.put, List.setIfInBounds_toArray, List.set_cons_zero, List.set_cons_succ]
      refine h_take 10 (.pointer (some ⟨S, 2, none⟩)) rfl 16 rfl (by kernel_rfl) (by kernel_rfl) (by kernel_rfl) (by kernel_rfl) (fun _ _ _ h => h) (fun w' _ => by kernel_rfl) ⟨S_6, O_6, trivial⟩ ?_
      simp only [Act.put, List.setIfInBounds_toArray, List.set_cons_zero, List.set_cons_succ]
      refine h_take 11 (.agg (u8s h).toArray) rfl 17 rfl (by kernel_rfl) (by kernel_rfl) (by kernel_rfl) (by kernel_rfl) (fun _ _ _ h => h) (fun w' hw => run_op_load _ _ rfl S 2 rfl (u8s h) ((pcs_2 (pin := some h)).range hw.1) (szH PO.out)) ⟨S_6, O_6, trivial⟩ ?_
      simp only [Act.put, List.setIfInBounds_toArray, List.set_cons_zero, List.set_cons_succ]
      refine h_take 12 (.bool true) rfl 18 rfl (by kernel_rfl) (by kernel_rfl) (by kernel_rfl) (by kernel_rfl) (fun _ _ _ h => h) (fun w' _ => run_op_eqlW _ _ _ rfl (digS x0) h K0.out PO.out rfl rfl true HV.out w') ⟨S_6, O_6, trivial⟩ ?_
      simp only [Act.put, List.setIfInBounds_toArray, List.set_cons_zero, List.set_cons_succ]
      refine h_take 13 (.bool true) rfl 19 rfl (by kernel_rfl) (by kernel_rfl) (by kernel_rfl) (by kernel_rfl) (fun _ _ _ h => h) (fun w' _ => by kernel_rfl) ⟨S_6, O_6, trivial⟩ ?_
      simp only [Act.put, List.setIfInBounds_toArray, List.set_cons_zero, List.set_cons_succ]
      refine wpAnyH_done (by kernel_rfl) ?_ _
      go_wp2_with (first
        | ((with_reducible refine at_slot 21 ?_); (refine arm_want (.pointer (some ⟨g, 0 + 1 * 32, none⟩)) 21 rfl (by kernel_rfl) (Sl.run_op_index fD _ _ rfl g 0 _ _ rfl .i64 _ rfl 1 rfl lL1 _) ?_); try simp only [Act.put, List.setIfInBounds_toArray, List.set_cons_zero, List.set_cons_succ])
        | ((with_reducible refine at_slot 22 ?_); (refine arm_load (o := ⟨some 22, _, _, _, _, _⟩) rfl _ _ rfl g (0 + 1 * 32) rfl (u8s (digS x1)) (at_range O_6 HD1.out) (szH K1.out) ?_); try simp only [Act.put, List.setIfInBounds_toArray, List.set_cons_zero, List.set_cons_succ])
        | ((with_reducible refine arm_store (o := ⟨none, _, _, _, _, _⟩) rfl _ _ _ rfl R 0 rfl (u8s (digS x1)) rfl _ _ (R_6) (fitH K1.out) (u8s_one _) (szH K1.out) ?_); intro y8 hy8 oy8 sy8; try simp only [Act.put, List.setIfInBounds_toArray, List.set_cons_zero, List.set_cons_succ]))
      have rR8 : Row y8 R 32 (u8s (digS x1)) := hy8.congr (allH K1.out)
      have hb8 := bel_6.new oy8 (geR)
      exact bodyPost_ret (v := .agg (u8s (digS x1)).toArray) (result_row (p := 2) (ty := 32) (u := 32) (by kernel_rfl) _ _ R (u8s (digS x1)) rfl rR8 (szH K1.out)) rfl ⟨by first | rfl | rw [if_pos HC.out], hb8.below (fun k hk => hk.elim) (Nat.le_refl _)⟩
    · have HV : Hid (decide (digS x0 = h) = false) := Lib.hid (decide_eq_false hv)
      have HC : Hid (¬ some h = some (digS x0)) := Lib.hid (fun q => hv (Option.some.inj q).symm)
      clear hv
      go_enter Tryz.func37, Tryz.ntmps37
      have bel0 : Chg (fun _ => False) w w := Chg.refl _ _
      go_wp2_with (first
        | ((with_reducible refine at_slot 2 ?_); (refine arm_alloc (o := ⟨some 2, _, _, _, _, _⟩) rfl _ rfl (u8s zh) zH ?_); intro R v1 Re hv1 nv1; try simp only [Act.put, List.setIfInBounds_toArray, List.set_cons_zero, List.set_cons_succ]))
      have hbv1 := nv1.below
      have rrv1 : Row v1 R 32 (u8s zh) := hv1
      have geR : w.heap.size ≤ R := by have := Re.out; have := bel0.size; omega
      have lRx : w.heap.size ≤ R := by have := Re.out; omega
      clear hv1 nv1 Re
      have A_2 : SAt v1 F S r mb (some h) E := hS.old hbv1
      have bel_2 : Chg (fun _ => False) w v1 := bel0.old hbv1
      clear hS bel0 hbv1
      refine (CR.out _ A_2).mono ?_
      rintro e y3 ⟨⟨p, cap, rfl, hO⟩, hB⟩
      have HO := Lib.hid hO
      clear hO
      have A_4 : SAt y3 F S r mb (some h) E := A_2.old hB
      have R_4 : Row y3 R 32 (u8s zh) := rrv1.old hB
      have bel_4 : Chg (fun _ => False) w y3 := bel_2.old hB
      clear A_2 rrv1 bel_2 hB
      obtain ⟨g, cur, rfl, hg, hcur, hcap, hmx, hsz, htk⟩ := own_row HO.out (by intro e; rw [e] at HD0; exact absurd HD0.out (by simp))
      have hAt := HO.out.at fD
      clear hcur hcap hmx hsz htk hg
      have lL : (0 : Nat) < L.length := by have := HL2.out; omega
      have lL1 : (1 : Nat) < L.length := HL2.out
      have hrow := A_4.row
      go_wp2_with fail
      refine wp_region_held (S := fun w' => Row w' S 78 (pcs r mb (some h)) ∧ Sl.At kD w' (some ⟨g, 0, none⟩) (L.map digS) ∧ True) (by kernel_rfl) ?_
      change wpAnyH _ _ _ _ _ _ _ _ y3.drew
      have hd5 : Below y3.heap.size y3 y3.drew := (Below.refl _ _).drew
      have A_6 : SAt y3.drew F S r mb (some h) E := A_4.old hd5
      have R_6 : Row y3.drew R 32 (u8s zh) := R_4.old hd5
      have O_6 : Sl.At kD y3.drew (some ⟨g, 0, none⟩) (L.map digS) := hAt.below hd5
      have S_6 : Row y3.drew S 78 (pcs r mb (some h)) := hrow.old hd5
      have bel_6 : Chg (fun _ => False) w y3.drew := bel_4.old hd5
      clear A_4 R_4 hAt hrow bel_4 hd5
      generalize y3.drew = yz5 at A_6 R_6 O_6 S_6 bel_6 ⊢
      refine h_take 0 (.pointer (some ⟨S, 0, none⟩)) rfl 6 rfl (by kernel_rfl) (by kernel_rfl) (by kernel_rfl) (by kernel_rfl) (fun _ _ _ h => h) (fun w' _ => by kernel_rfl) ⟨S_6, O_6, trivial⟩ ?_
      simp only [Act.put, List.setIfInBounds_toArray, List.set_cons_zero, List.set_cons_succ]
      refine h_take 1 (.pointer (some ⟨S, 0, none⟩)) rfl 7 rfl (by kernel_rfl) (by kernel_rfl) (by kernel_rfl) (by kernel_rfl) (fun _ _ _ h => h) (fun w' _ => by kernel_rfl) ⟨S_6, O_6, trivial⟩ ?_
      simp only [Act.put, List.setIfInBounds_toArray, List.set_cons_zero, List.set_cons_succ]
      refine h_take 2 (.pointer (some ⟨S, 34, none⟩)) rfl 8 rfl (by kernel_rfl) (by kernel_rfl) (by kernel_rfl) (by kernel_rfl) (fun _ _ _ h => h) (fun w' _ => by kernel_rfl) ⟨S_6, O_6, trivial⟩ ?_
      simp only [Act.put, List.setIfInBounds_toArray, List.set_cons_zero, List.set_cons_succ]
      refine h_take 3 (.bool true) rfl 9 rfl (by kernel_rfl) (by kernel_rfl) (by kernel_rfl) (by kernel_rfl) (fun _ _ _ h => h) (fun w' hw => run_op_load1 _ _ rfl (.bool) (by kernel_rfl) rfl ⟨S, 34, none⟩ rfl (.bool true) (hw.1.cell (pcs_34 (pin := some h) PO.out))) ⟨S_6, O_6, trivial⟩ ?_
      simp only [Act.put, List.setIfInBounds_toArray, List.set_cons_zero, List.set_cons_succ]
      refine h_take 4 (.bool true) rfl 10 rfl (by kernel_rfl) (by kernel_rfl) (by kernel_rfl) (by kernel_rfl) (fun _ _ _ h => h) (fun w' _ => by kernel_rfl) ⟨S_6, O_6, trivial⟩ ?_
      simp only [Act.put, List.setIfInBounds_toArray, List.set_cons_zero, List.set_cons_succ]
      refine h_take 5 (.slice (some ⟨g, 0, none⟩) L.length cap) rfl 11 rfl (by kernel_rfl) (by kernel_rfl) (by kernel_rfl) (by kernel_rfl) (fun _ _ _ h => h) (fun w' _ => by kernel_rfl) ⟨S_6, O_6, trivial⟩ ?_
      simp only [Act.put, List.setIfInBounds_toArray, List.set_cons_zero, List.set_cons_succ]
      refine h_take 6 (.pointer (some ⟨g, 0 + 0 * 32, none⟩)) rfl 12 rfl (by kernel_rfl) (by kernel_rfl) (by kernel_rfl) (by kernel_rfl) (fun _ _ _ h => h) (fun w' _ => Sl.run_op_index fD _ _ rfl g 0 _ _ rfl .i64 _ rfl 0 rfl lL w') ⟨S_6, O_6, trivial⟩ ?_
      simp only [Act.put, List.setIfInBounds_toArray, List.set_cons_zero, List.set_cons_succ]
      refine h_take 7 (.agg (u8s (digS x0)).toArray) rfl 13 rfl (by kernel_rfl) (by kernel_rfl) (by kernel_rfl) (by kernel_rfl) (fun _ _ _ h => h) (fun w' hw => run_op_load _ _ rfl g (0 + 0 * 32) rfl (u8s (digS x0)) (at_range hw.2.1 HD0.out) (szH K0.out)) ⟨S_6, O_6, trivial⟩ ?_
      simp only [Act.put, List.setIfInBounds_toArray, List.set_cons_zero, List.set_cons_succ]
      refine h_take 8 (.pointer (some ⟨S, 0, none⟩)) rfl 14 rfl (by kernel_rfl) (by kernel_rfl) (by kernel_rfl) (by kernel_rfl) (fun _ _ _ h => h) (fun w' _ => by kernel_rfl) ⟨S_6, O_6, trivial⟩ ?_
      simp only [Act.put, List.setIfInBounds_toArray, List.set_cons_zero, List.set_cons_succ]
      refine h_take 9 (.pointer (some ⟨S, 0, none⟩)) rfl 15 rfl (by kernel_rfl) (by kernel_rfl) (by kernel_rfl) (by kernel_rfl) (fun _ _ _ h => h) (fun w' _ => by kernel_rfl) ⟨S_6, O_6, trivial⟩ ?_
      simp only [Act.put, List.setIfInBounds_toArray, List.set_cons_zero, List.set_cons_succ]
      refine h_take 10 (.pointer (some ⟨S, 2, none⟩)) rfl 16 rfl (by kernel_rfl) (by kernel_rfl) (by kernel_rfl) (by kernel_rfl) (fun _ _ _ h => h) (fun w' _ => by kernel_rfl) ⟨S_6, O_6, trivial⟩ ?_
      simp only [Act.put, List.setIfInBounds_toArray, List.set_cons_zero, List.set_cons_succ]
      refine h_take 11 (.agg (u8s h).toArray) rfl 17 rfl (by kernel_rfl) (by kernel_rfl) (by kernel_rfl) (by kernel_rfl) (fun _ _ _ h => h) (fun w' hw => run_op_load _ _ rfl S 2 rfl (u8s h) ((pcs_2 (pin := some h)).range hw.1) (szH PO.out)) ⟨S_6, O_6, trivial⟩ ?_
      simp only [Act.put, List.setIfInBounds_toArray, List.set_cons_zero, List.set_cons_succ]
      refine h_take 12 (.bool false) rfl 18 rfl (by kernel_rfl) (by kernel_rfl) (by kernel_rfl) (by kernel_rfl) (fun _ _ _ h => h) (fun w' _ => run_op_eqlW _ _ _ rfl (digS x0) h K0.out PO.out rfl rfl false HV.out w') ⟨S_6, O_6, trivial⟩ ?_
      simp only [Act.put, List.setIfInBounds_toArray, List.set_cons_zero, List.set_cons_succ]
      refine h_take 13 (.bool false) rfl 19 rfl (by kernel_rfl) (by kernel_rfl) (by kernel_rfl) (by kernel_rfl) (fun _ _ _ h => h) (fun w' _ => by kernel_rfl) ⟨S_6, O_6, trivial⟩ ?_
      simp only [Act.put, List.setIfInBounds_toArray, List.set_cons_zero, List.set_cons_succ]
      refine wpAnyH_done (by kernel_rfl) ?_ _
      go_wp2_with (first
        | ((with_reducible refine at_slot 24 ?_); (refine arm_want (.pointer (some ⟨g, 0 + 0 * 32, none⟩)) 24 rfl (by kernel_rfl) (Sl.run_op_index fD _ _ rfl g 0 _ _ rfl .i64 _ rfl 0 rfl lL _) ?_); try simp only [Act.put, List.setIfInBounds_toArray, List.set_cons_zero, List.set_cons_succ])
        | ((with_reducible refine at_slot 25 ?_); (refine arm_load (o := ⟨some 25, _, _, _, _, _⟩) rfl _ _ rfl g (0 + 0 * 32) rfl (u8s (digS x0)) (at_range O_6 HD0.out) (szH K0.out) ?_); try simp only [Act.put, List.setIfInBounds_toArray, List.set_cons_zero, List.set_cons_succ])
        | ((with_reducible refine arm_store (o := ⟨none, _, _, _, _, _⟩) rfl _ _ _ rfl R 0 rfl (u8s (digS x0)) rfl _ _ (R_6) (fitH K0.out) (u8s_one _) (szH K0.out) ?_); intro y8 hy8 oy8 sy8; try simp only [Act.put, List.setIfInBounds_toArray, List.set_cons_zero, List.set_cons_succ]))
      have rR8 : Row y8 R 32 (u8s (digS x0)) := hy8.congr (allH K0.out)
      have hb8 := bel_6.new oy8 (geR)
      exact bodyPost_ret (v := .agg (u8s (digS x0)).toArray) (result_row (p := 2) (ty := 32) (u := 32) (by kernel_rfl) _ _ R (u8s (digS x0)) rfl rR8 (szH K0.out)) rfl ⟨by first | rfl | rw [if_neg HC.out], hb8.below (fun k hk => hk.elim) (Nat.le_refl _)⟩
end Go.Proofs.YtnjmocobncncdaaGreatDoor.So
