/-
  'slices.Collect(maps.Keys(m))' at maps keyed by digests: the iterator, what gathers, both calls. Over this seat's translation.
-/
import Derived.Test.YtnjmocobncncdaaDoorKeySeq
import Derived.Test.YtnjmocobncncdaaDoorHashKey
import Derived.Test.YtnjmocobncncdaaDoorSlisAll
import Derived.Test.YtnjmocobncncdaaDoorEpoAll
import Derived.RangeFuncGives
import Derived.Maps.AppendAt
import Derived.Shelf.AbstractIn
import Derived.Shelf.SlIter.Collect
namespace Go.Proofs.YtnjmocobncncdaaDoor.So
open Go.RowKit Go.Maps Go.Proofs.YtnjmocobncncdaaDoor.Mem Go.Proofs.YtnjmocobncncdaaDoor.Bt Go.Proofs.YtnjmocobncncdaaDoor.Km
open Go.Proofs.YtnjmocobncncdaaDoor.Ep (H32 zh zh_ok Has h_len szH zH fitH allH)
open Go.Proofs.YtnjmocobncncdaaDoor.Sl (Kind)
set_option linter.unusedVariables false
set_option linter.unusedSimpArgs false

section
variable {F : Fence} {n : Nat} {P : Program} {ops : Array Oper} {rest : List Oper} {o : Oper} {a : Act} {w w' : World} {Q : Exit → Act → World → Prop}
theorem inArm_value (hg : o.guard = none) (hc : ∀ c, o.op ≠ .defer c) (hn : o.about P w a.eval = none) (v : Value) (hr : (execOp a.eval o).run P w = .ok (.value v) w') (h : wpListIn F n P ops Q rest (a.put o.dst v) w') : wpListIn F n P ops Q (o :: rest) a w := by
  refine wpListIn_plain hg fun K hK => ?_
  unfold Oper.wpIn
  refine ⟨fun f hf => (by rw [hn] at hf; cases hf), ?_⟩
  rw [Oper.semAt_plain F _ _ hc, hr, Oper.uponIn_value]
  exact hK _ _ h
theorem inArm_skip (hg : o.guard = none) (hc : ∀ c, o.op ≠ .defer c) (hn : o.about P w a.eval = none) (hr : (execOp a.eval o).run P w = .ok .skip w') (h : wpListIn F n P ops Q rest (a.put o.dst undef) w') : wpListIn F n P ops Q (o :: rest) a w := by
  refine wpListIn_plain hg fun K hK => ?_
  unfold Oper.wpIn
  refine ⟨fun f hf => (by rw [hn] at hf; cases hf), ?_⟩
  rw [Oper.semAt_plain F _ _ hc, hr, Oper.uponIn_skip]
  exact hK _ _ h
theorem at_slotIn (d : Tmp) {op : Op} {ty : TypeId} {pos : String} {af : Array Edge} {gd : Option (Nat × Bool)} (h : wpListIn F n P ops Q (⟨some d, op, ty, pos, af, gd⟩ :: rest) a w) : wpListIn F n P ops Q (⟨some d, op, ty, pos, af, gd⟩ :: rest) a w := h
theorem at_storeIn {t : TypeId} {x y : Operand} {ty : TypeId} {pos : String} {af : Array Edge} {gd : Option (Nat × Bool)} (h : wpListIn F n P ops Q (⟨none, .store t x y, ty, pos, af, gd⟩ :: rest) a w) : wpListIn F n P ops Q (⟨none, .store t x y, ty, pos, af, gd⟩ :: rest) a w := h
theorem inArm_alloc (t : TypeId) (ho : o.op = .alloc t) (hg : o.guard = none) (zs : List Value) (hz : Mem.Zero P t zs) (h : ∀ b w2, Hid (b = w.heap.size) → Row w2 b t zs → New w w2 → wpListIn F n P ops Q rest (a.put o.dst (.pointer (some ⟨b, 0, none⟩))) w2) : wpListIn F n P ops Q (o :: rest) a w :=
  inArm_value hg (fun c h => by rw [ho] at h; cases h) (by simp [Oper.about, ho]) _ (run_op_alloc t ho zs hz) (h _ _ rfl (heap_alloc_new _ _) (new_alloc _ _))
theorem inArm_load (t : TypeId) (x : Operand) (ho : o.op = .load t x) (hg : o.guard = none) (b off : Nat) (hx : a.eval x = .pointer (some ⟨b, off, none⟩)) (vs : List Value) (hv : w.rangeAt b off vs) (hs : Sized P t vs.length) (h : wpListIn F n P ops Q rest (a.put o.dst (.agg vs.toArray)) w) : wpListIn F n P ops Q (o :: rest) a w :=
  inArm_value hg (fun c h => by rw [ho] at h; cases h) (by simp [Oper.about, ho]) _ (run_op_load t x ho b off hx vs hv hs) h
theorem inArm_store (t : TypeId) (x y : Operand) (ho : o.op = .store t x y) (hg : o.guard = none) (b off : Nat) (hx : a.eval x = .pointer (some ⟨b, off, none⟩)) (vs : List Value) (hy : a.eval y = .agg vs.toArray) (u : TypeId) (cs : List Value) (hr : Row w b u cs) (hf : off + vs.length ≤ cs.length) (h1 : OneCells vs) (hs : Sized P t vs.length)
    (h : ∀ w2, Row w2 b u (lay cs off vs) → Only b w w2 → Hid (w2.heap.size = w.heap.size) → wpListIn F n P ops Q rest (a.put o.dst undef) w2) : wpListIn F n P ops Q (o :: rest) a w :=
  inArm_skip hg (fun c h => by rw [ho] at h; cases h) (by simp [Oper.about, ho]) (run_op_store t x y ho b off hx vs hy u cs hr hf h1 hs) (h _ (row_setRow hr _) (Only.setRow _ _ _) (by simp [Hid]))
theorem New.grown (h : New w w') : w.grownBy w' none := ⟨h.below.os, h.below.tape, h.below.output, h.below.size, fun k hk _ => h.below.block k hk⟩
theorem grown_new {w2 : World} {X : Nat} (h : New w w2) (e : Hid (X = w.heap.size)) (g : Only X w2 w') : w.grownBy w' none :=
  ⟨g.os.trans h.below.os, g.tape.trans h.below.tape, g.output.trans h.below.output, Nat.le_trans h.below.size g.size, fun k hk _ => (g.block k (Nat.lt_of_lt_of_le hk h.below.size) (by have := e.out; omega)).trans (h.below.block k hk)⟩
theorem grown_walks (h : w.grownBy w' none) : KeepsWalks w w' := KeepsWalks.of_grownBy h (fun j o e _ => by cases e)
end

abbrev D32 := { x : List Nat // H32 x }
def encD (x : D32) : Value := hashV x.1
set_option maxRecDepth 100000 in
set_option maxHeartbeats 4000000 in
theorem keys1_in {β : Type} (U : β → Value) (L : List (List Nat × β)) (hL : ∀ p ∈ L, H32 p.1) (F : Fence) (n : Nat) (hf : F.fn 51) (hro : F.round = none) (hn : 1 ≤ n) (l Bm b : Nat) (J : List D32 → World → Prop)
    (hY : ∀ pre x W, J pre W → pre.length < L.length → YieldAt F (n - 1) Tryd.prog l #[encD x] W fun e W' => e = .returned (.bool true) ∧ J (pre ++ [x]) W' ∧ KeepsWalks W W')
    (W : World) (hJ : AbidesFrom W.heap.size J) (hm : W.cell? ⟨Bm, 0, none⟩ = some (.map (some b))) (hown : KMap W b hashV U hashOk L) (h0 : J [] W) :
    CallsIn F n Tryd.prog 51 #[.func (.yield l) #[] #[], .pointer (some ⟨Bm, 0, none⟩)] W fun e W' => (∃ v, e = .returned v) ∧ ∃ ss : List D32, (ss.map Subtype.val).Perm (L.map Prod.fst) ∧ J ss W' := by
  refine callsIn_of_wp Tryd.func51 rfl hf ?_ hro
  simp only [Tryd.ntmps51, List.size_toArray, List.length_cons, List.length_nil, Nat.reduceAdd, Nat.reduceSub, Array.replicate_succ, Array.replicate_zero, List.push_toArray, List.append_toArray, List.nil_append, List.cons_append]
  gi_wp2_with (first
    | (gi_at_range; refine inArm_range (kt := 29) (e := 71) rfl _ 65 rfl rfl hown (by kernel_rfl) ?_; intro w0 cnt0 hrg0 hg0 hs0)
    | gi_in)
  go_frame
  gi_loopw [3] (fun _ wr => ∃ (idx : List Nat) (cnt : Nat) (ss : List D32), KSeq wr b W.heap.size hashV U hashOk L idx cnt ∧ ss.map Subtype.val = pick L idx ∧ J ss wr)
    (fun _ wr => wr.rangeLeft b W.heap.size)
  case atStart =>
    exact ⟨[], _, [], hrg0, rfl, hJ [] W w0 none h0 hg0 (fun r e => by cases e)⟩
  case round =>
    obtain ⟨idx, cnt, ss, hrg, hpk, hJs⟩ := hrel
    have hsl : ss.length = idx.length := by have := congrArg List.length hpk; rw [List.length_map, pick_len hrg.low] at this; exact this
    gi_wp2_with (first
      | (gi_at_next; refine inArm_next rfl _ rfl rfl hrg ?_ ?_)
      | gi_in)
    · -- nothing is left
      intro hall
      gi_wp2
      go_end0
      exact ⟨⟨_, rfl⟩, ss, by rw [hpk]; exact pick_perm hrg.low hrg.once hall, hJs⟩
    · -- an entry has come
      intro i pk pv w2 cnt2 hi hni hrg2 hlt hg2 hs2 hen
      have hp : H32 pk := hL (pk, pv) (List.mem_of_getElem? hi)
      have hJ2 : J ss w2 := hJ ss wr w2 (some W.heap.size) hJs hg2 (fun r e => by cases e; exact ⟨Nat.le_refl _, hrg.walk⟩)
      have hlen : ss.length < L.length := by rw [hsl]; exact once_lt hrg.low hrg.once (List.getElem?_eq_some_iff.1 hi).1 hni
      clear hs2
      gi_wp2_with (first
        | ((with_reducible refine at_slotIn 3 ?_); refine inArm_alloc 29 rfl rfl (u8s zh) zH ?_; intro X w3 Xe rX nX)
        | ((with_reducible refine at_storeIn ?_); refine inArm_store 29 _ _ rfl rfl X 0 rfl (u8s pk) rfl _ _ rX (fitH hp) (u8s_one _) (szH hp) ?_; intro w4 rX4 oX sX)
        | ((with_reducible refine at_slotIn 11 ?_); refine inArm_load 29 _ rfl rfl X 0 rfl (u8s pk) ((Has.refl _).range (rX4.congr (allH hp))) (szH hp) ?_; have hg24 := grown_new nX Xe oX; have hJ4 : J ss w4 := hJ ss w2 w4 none hJ2 hg24 (fun r e => by cases e); have hrg4 := hrg2.of_walks (grown_walks hg24); obtain ⟨fn, tmps, assign, body, hy, hR⟩ := hY ss ⟨pk, hp⟩ w4 hJ4 hlen; clear hrg2 hJ2 rX nX oX hg24 hen; dsimp only [encD, hashV] at hy))
      refine hR.mono ?_
      rintro e W3 ⟨rfl, hJ3, hk3⟩
      gi_wp2
      have hrg3 := hrg4.of_walks hk3
      go_roundw
      case rel => exact ⟨_, cnt2, ss ++ [⟨pk, hp⟩], hrg3, by rw [List.map_append, hpk, pick_one hi]; rfl, hJ3⟩
      case measure => rw [hrg3.left_eq, hrg.left_eq]; exact hlt
theorem keys_gives {β : Type} (U : β → Value) (L : List (List Nat × β)) (hL : ∀ p ∈ L, H32 p.1) (F : Fence) (n : Nat) (hf : F.fn 51) (hro : F.round = none) (hn : 1 ≤ n) (Bm b : Nat) (w : World) (hBm : Bm < w.heap.size)
    (hm : w.cell? ⟨Bm, 0, none⟩ = some (.map (some b))) (hown : KMap w b hashV U hashOk L) :
    SeqGives F n Tryd.prog 51 #[.pointer (some ⟨Bm, 0, none⟩)] encD (fun ss : List D32 => (ss.map Subtype.val).Perm (L.map Prod.fst)) L.length w := fun l J W hW hJ hY h0 =>
  keys1_in U L hL F n hf hro hn l Bm b J hY W hJ ((hW.cell (p := ⟨Bm, 0, none⟩) hBm).trans hm) (hown.old hW) h0
set_option maxHeartbeats 1000000 in
theorem keys_in (F : Fence) (n : Nat) (hf : F.fn 38) (hro : F.round = none) (mb : Option Nat) (w : World) :
    CallsIn F n Tryd.prog 38 #[.map mb] w fun e w' => e = .returned (.func (.func 51) #[] #[.pointer (some ⟨w.heap.size, 0, none⟩)]) ∧ w' = w.alloc (.cells #[.map mb] 65) := by
  refine callsIn_of_wp Tryd.func38 rfl hf ?_ hro
  simp only [Tryd.ntmps38, List.size_toArray, List.length_cons, List.length_nil, Nat.reduceAdd, Nat.reduceSub, Array.replicate_succ, Array.replicate_zero, List.push_toArray, List.append_toArray, List.nil_append, List.cons_append]
  gi_wp2
  go_ret
  exact ⟨rfl, rfl⟩
end Go.Proofs.YtnjmocobncncdaaDoor.So
