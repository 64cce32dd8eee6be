/-
  slices.AppendSeq and slices.Collect of digests, against whatever iterator. Over this seat's translation.
-/
import Derived.Test.YtnjmocobncncdaaDoorStoKeys
namespace Go.Proofs.YtnjmocobncncdaaDoor.So
open Go.RowKit Go.Maps Go.Proofs.YtnjmocobncncdaaDoor.Mem Go.Proofs.YtnjmocobncncdaaDoor.Bt Go.Proofs.YtnjmocobncncdaaDoor.Km
open Go.Proofs.YtnjmocobncncdaaDoor.Ep (H32 zh zh_ok Has h_len szH zH fitH allH)
open Go.Proofs.YtnjmocobncncdaaDoor.Sl (Kind)
set_option linter.unusedVariables false
set_option linter.unusedSimpArgs false

abbrev kD : Kind (List Nat) := ⟨u8s, H32, zh, 32, 29, 75, 32⟩
theorem fD : kD.Fit Tryd.prog where
  len := fun x h => h_len h
  one := fun x => u8s_one x
  zok := zh_ok
  pos := by decide
  small := by decide
  bsmall := by decide
  und := by kernel_rfl
  row := ⟨.array 32 5, by kernel_rfl, rfl⟩
  info := by kernel_rfl
abbrev dl (ss : List D32) : List (List Nat) := ss.map Subtype.val
theorem dl_ok (ss : List D32) : kD.AllOk (dl ss) := fun x hx => by
  obtain ⟨y, _, rfl⟩ := List.mem_map.1 hx
  exact y.2
def apAssign : Code := (Code.region 2 #[{ dst := some 5, op := Op.alloc 29, type := 0, pos := "iter.go:51", after := #[], guard := none }, { dst := none, op := Op.store 29 (Operand.tmp 5) (Operand.tmp 7), type := 0, pos := "iter.go:51", after := #[{ on := 0, ground := Ground.data }, { on := 0, ground := Ground.phase }], guard := none }] false)
def apBody : Code := (Code.block 1 (Code.region 3 #[{ dst := some 8, op := Op.load 75 (Operand.tmp 2), type := 75, pos := "iter.go:52", after := #[], guard := none }, { dst := some 9, op := Op.load 29 (Operand.tmp 5), type := 29, pos := "iter.go:52", after := #[], guard := none }, { dst := some 10, op := Op.buildSlice 75 1 #[(0, Operand.tmp 9)], type := 75, pos := "iter.go:52", after := #[{ on := 1, ground := Ground.data }], guard := none }, { dst := some 11, op := Op.call { callee := Callee.builtin Builtin.append, args := #[Operand.tmp 8, Operand.tmp 10], argTypes := #[75, 75] }, type := 75, pos := "iter.go:52", after := #[{ on := 0, ground := Ground.data }, { on := 2, ground := Ground.data }], guard := none }, { dst := none, op := Op.store 75 (Operand.tmp 2) (Operand.tmp 11), type := 0, pos := "iter.go:52", after := #[{ on := 3, ground := Ground.data }, { on := 3, ground := Ground.chain }, { on := 0, ground := Ground.phase }, { on := 1, ground := Ground.phase }, { on := 2, ground := Ground.phase }, { on := 3, ground := Ground.phase }], guard := none }] false))
def apRec (fn : FuncId) (sv : Value) (Bs D : Nat) (st : LoopState) (pend : Option Code) : Loop :=
  { state := st, pending := pend, fn, tmps := #[.slice none 0 0, sv, .pointer (some ⟨Bs, 0, none⟩), undef, .slice none 0 0, undef, sv, undef, undef, undef, undef, undef, undef], params := #[7], assign := apAssign, body := apBody, defers := D }
/-- Between two rounds. -/
structure ApAt (w0 : World) (fn : FuncId) (sv : Value) (Bs l D : Nat) (ss : List D32) (W : World) : Prop where
  box : ∃ v, W.heap[Bs]? = some (.cells #[v] 75 (0, 0)) ∧ W.ownsRow w0.heap.size 29 32 v ss.length (kD.all (dl ss)) ∧ (v = .slice none 0 0 ↔ ss = [])
  L : W.heap[l]? = some (.loop (apRec fn sv Bs D .ready none))
  K : W.heap[D]? = some (.deferred (some []))
  below : Below w0.heap.size w0 W
theorem ap_abides (w0 : World) (fn : FuncId) (sv : Value) (Bs l D B : Nat) (hB : w0.heap.size ≤ B) : AbidesFrom B (ApAt w0 fn sv Bs l D) := fun s W W' row h hg hrow => by
  have hrow' : ∀ r, row = some r → ∃ o : Obj, W.heap[r]? = some o ∧ o.isWalk = true := fun r e => (hrow r e).2
  obtain ⟨v, hv, hr, hn⟩ := h.box
  exact ⟨⟨v, (grownBy_keeps hg hrow' hv rfl).trans hv, ownsRow_abides_a hr hg hrow', hn⟩, (grownBy_keeps hg hrow' h.L rfl).trans h.L, (grownBy_keeps hg hrow' h.K rfl).trans h.K,
    h.below.grown hg h.below.size (fun k e => Nat.le_trans hB (hrow k e).1)⟩
macro "gi_round_op_d" : tactic => `(tactic| (rw [Oper.semAt_eq _ _ _ (fun c h => by cases h)]; go_simp; try go_bits))
theorem hneS : (75 : TypeId) ≠ 29 := by decide
theorem cells_at {w : World} {b : Nat} {xs : List Value} {t : TypeId} (h : Row w b t xs) : ∀ (j : Nat) (u : Value), xs[j]? = some u → w.cell? ((⟨b, 0, none⟩ : Addr).add j) = some u := fun j u hj => by
  rw [Addr.add_mid, Nat.zero_add]; exact h.cell hj
theorem grown_keep {w w' : World} {row : Option Nat} (hg : w.grownBy w' row) {b : Nat} {o : Obj} (h : w.heap[b]? = some o) (hn : some b ≠ row) : w'.heap[b]? = some o := (hg.block b (Array.getElem?_eq_some_iff.1 h).1 hn).trans h

set_option maxRecDepth 100000 in
set_option maxHeartbeats 4000000 in
theorem apYield (F : Fence) (m : Nat) (w0 : World) (fn : FuncId) (hfn : F.fn fn) (sv : Value) (Bs l D : Nat) (hBl : Bs ≠ l) (hDl : D ≠ l) (hDB : D ≠ Bs) (h0B : w0.heap.size ≤ Bs) (h0l : w0.heap.size ≤ l)
    (N : Nat) (hN : N ≤ maxLen) (hNb : N * 32 ≤ 140737488355328) (ss : List D32) (x : D32) (W : World) (h : ApAt w0 fn sv Bs l D ss W) (hlen : ss.length < N) :
    YieldAt F m Tryd.prog l #[encD x] W fun e W' => e = .returned (.bool true) ∧ ApAt w0 fn sv Bs l D (ss ++ [x]) W' ∧ KeepsWalks W W' := by
  obtain ⟨i0, hi, hz0, hz1, hz2⟩ := fD.parts
  obtain ⟨v, hv, hrow, _⟩ := h.box
  obtain ⟨x, hx⟩ := x
  refine ⟨fn, #[.slice none 0 0, sv, .pointer (some ⟨Bs, 0, none⟩), undef, .slice none 0 0, undef, sv, encD ⟨x, hx⟩, undef, undef, undef, undef, undef], apAssign, apBody, by simpa [apRec] using run_yield (P := Tryd.prog) (args := #[encD ⟨x, hx⟩]) h.L rfl, roundIn_of_wpIn hfn ?_⟩
  have hl : l < W.heap.size := (Array.getElem?_eq_some_iff.1 h.L).1
  have hhL := h.L
  have hhK := h.K
  have hbe := h.below
  clear h
  unfold apAssign
  dsimp only [encD, hashV]
  gi_wp2_with (first
    | ((with_reducible refine at_slotIn 5 ?_); refine inArm_alloc 29 rfl rfl (u8s zh) zH ?_; intro X w3 Xe rX nX)
    | ((with_reducible refine at_storeIn ?_); refine inArm_store 29 _ _ rfl rfl X 0 rfl (u8s x) rfl _ _ rX (fitH hx) (u8s_one _) (szH hx) ?_; intro w4 rX4' oX sX)
    | gi_round_op_d)
  have rX4 : Row w4 X 29 (u8s x) := rX4'.congr (allH hx)
  have g04 := grown_new nX Xe oX
  have hXl : X ≠ l := by have := Xe.out; omega
  have hv4 := grown_keep g04 hv (by simp)
  have hK4 := grown_keep g04 hhK (by simp)
  have hL4 := grown_keep g04 hhL (by simp)
  have hrow4 := hrow.kept g04 (by cases v.ownBlock <;> simp)
  have hb4 : Below w0.heap.size w0 w4 := hbe.grown g04 hbe.size (fun k e => by cases e)
  have hk4 : KeepsWalks W w4 := grown_walks g04
  clear rX nX oX rX4' g04 hv hhK hhL hrow hbe Xe sX hl
  have hl4 : l < w4.heap.size := (Array.getElem?_eq_some_iff.1 hL4).1
  have hbr := run_beginRound (P := Tryd.prog) hL4 rfl
  obtain ⟨W5, hW5⟩ : ∃ W5, w4.putObj l (.loop { apRec fn sv Bs D .ready none with state := .busy }) = W5 := ⟨_, rfl⟩
  rw [hW5] at hbr
  have hg5 : w4.grownBy W5 (some l) := by rw [← hW5]; exact grownBy_putObj_a _ _ _
  have hk5 : KeepsWalks W W5 := hk4.trans (by rw [← hW5]; exact KeepsWalks.putObj _ hL4 rfl)
  have hv5 : W5.heap[Bs]? = some (.cells #[v] 75 (0, 0)) := by rw [← hW5]; exact (World.putObj_heap_other hBl).trans hv4
  have hK5 : W5.heap[D]? = some (.deferred (some [])) := by rw [← hW5]; exact (World.putObj_heap_other hDl).trans hK4
  have hL5 : W5.heap[l]? = some (.loop { apRec fn sv Bs D .ready none with state := .busy }) := by rw [← hW5]; exact World.putObj_heap_same hl4
  have rX5 : Row W5 X 29 (u8s x) := grown_keep hg5 rX4 (fun e => hXl (by cases e; rfl))
  have hrow5 : W5.ownsRow w0.heap.size 29 32 v ss.length (kD.all (dl ss)) := hrow4.kept hg5 (ownsRow_ne_a hrow4 hL4 (fun cur e => by first | cases e | exact hneS (Obj.cells.inj e).2.1))
  have hb5 : Below w0.heap.size w0 W5 := hb4.grown hg5 hb4.size (fun k e => by cases e; exact h0l)
  clear hW5 hg5 hk4 hv4 hK4 hL4 rX4 hrow4 hb4 hl4
  refine ⟨W5, hbr, ?_⟩
  clear hbr
  have rB5 : Row W5 Bs 75 [v] := hv5
  have hcv : v.oneCell' = true := by
    rcases hrow5.2 with ⟨rfl, _⟩ | ⟨g, cap, cur, rfl, _⟩ <;> rfl
  unfold apBody
  gi_wp2_with (first
    | ((with_reducible refine at_slotIn 8 ?_); (refine inArm_value rfl (fun c h => nomatch h) rfl v (run_op_load1 _ _ rfl (.slice 29) (by kernel_rfl) rfl ⟨Bs, 0, none⟩ rfl v (rB5.cell rfl)) ?_))
    | ((with_reducible refine at_slotIn 9 ?_); refine inArm_load 29 _ rfl rfl X 0 rfl (u8s x) ((Has.refl _).range rX5) (szH hx) ?_)
    | ((with_reducible refine at_slotIn 10 ?_); ((refine inArm_value rfl (fun c h => nomatch h) rfl _ (Sl.run_op_lit (K := kD) fD [x] (Sl.allOk_cons hx Sl.allOk_nil) (by simp) 1 _ rfl rfl (by simp only [List.map_toArray, List.map_cons, List.map_nil]; rfl)) ?_); have nY := new_alloc W5 (.cells (kD.all [x]).toArray 29); have rY : Row (W5.alloc (.cells (kD.all [x]).toArray 29)) W5.heap.size 29 (kD.all [x]) := heap_alloc_new W5 _; generalize W5.alloc (.cells (kD.all [x]).toArray 29) = W6 at nY rY ⊢; have hrow6 := hrow5.kept (New.grown nY) (by cases v.ownBlock <;> simp)))
    | ((with_reducible refine at_slotIn 11 ?_); ((refine wpListIn_append_own _ rfl _ _ 75 rfl w0.heap.size 29 i0 (.agg (u8s zh).toArray) 32 32 (by kernel_rfl) hi hz0 hz1 hz2 rfl (by decide) _ _ _ rfl hrow6 ⟨W5.heap.size, 0, none⟩ 1 1 (kD.all [x]) rfl (by rw [Sl.all_one1]; exact h_len hx) (cells_at rY) (by rw [Sl.all_one1]; exact u8s_one _) (by omega) (by omega) (by have := hb5.size; have := nY.size; omega) ?_); intro v' w7 hown' hg7 hnil7); replace hg7 : W6.grownBy w7 v.ownBlock := hg7; have ne6 : ∀ {j : Nat} {o : Obj}, W6.heap[j]? = some o → (∀ cur, o ≠ .cells cur 29 (0, 0)) → some j ≠ v.ownBlock := (fun hj hno => (ownsRow_ne_a hrow6 hj hno).elim (fun e => by rw [e]; simp) (fun e e' => e e'.symm)); have rB7 : Row w7 Bs 75 [v] := grown_keep hg7 (rB5.old nY.below) (ne6 (rB5.old nY.below) (fun cur e => hneS (Obj.cells.inj e).2.1)); have hcv' : v'.oneCell' = true := (hown'.2.elim (fun q => by rw [q.1]; rfl) (fun ⟨g, cap, cur, q, _⟩ => by rw [q]; rfl)); go_frame)
    | ((with_reducible refine at_storeIn ?_); (refine inArm_skip rfl (fun c h => nomatch h) rfl (run_op_storeV _ _ _ rfl Bs 0 rfl v' rfl hcv' (by kernel_rfl) _ _ rB7 (by simp)) ?_; have rB8 := row_setRow rB7 ([v].set 0 v'); have oB := Only.setRow Bs w7 ([v].set 0 v').toArray; generalize w7.setRow Bs ([v].set 0 v').toArray = w8 at rB8 oB ⊢)))
  have g56 := New.grown nY
  have g78 : w7.grownBy w8 (some Bs) := ⟨oB.os, oB.tape, oB.output, oB.size, fun k hk hn => oB.block k hk (fun e => hn (by rw [e]))⟩
  have hL6 := grown_keep g56 hL5 (by simp)
  have hK6 := grown_keep g56 hK5 (by simp)
  have hL7 := grown_keep hg7 hL6 (ne6 hL6 (fun cur e => by cases e))
  have hK7 := grown_keep hg7 hK6 (ne6 hK6 (fun cur e => by cases e))
  have hL8 := grown_keep g78 hL7 (fun e => hBl (by cases e; rfl))
  have hK8 := grown_keep g78 hK7 (fun e => hDB (by cases e; rfl))
  have hrow8 := hown'.kept g78 (ownsRow_ne_a hown' rB7 (fun cur e => hneS (Obj.cells.inj e).2.1))
  have hl8 : l < w8.heap.size := (Array.getElem?_eq_some_iff.1 hL8).1
  have hb6 : Below w0.heap.size w0 W6 := hb5.grown g56 hb5.size (fun k e => by cases e)
  have hb7 : Below w0.heap.size w0 w7 := hb6.grown hg7 hb6.size (fun k e => (hrow6.lt k e).1)
  have hb8 : Below w0.heap.size w0 w8 := hb7.grown g78 hb7.size (fun k e => by cases e; exact h0B)
  have hk8 : KeepsWalks W w8 := ((hk5.trans (grown_walks g56)).trans (KeepsWalks.of_grownBy hg7 (ownsRow_not_walk_a hrow6))).trans (KeepsWalks.of_grownBy g78 (fun j o e ho => by cases e; rw [show w7.heap[Bs]? = _ from rB7] at ho; cases ho; rfl))
  have hv8 : w8.heap[Bs]? = some (.cells #[v'] 75 (0, 0)) := rB8
  refine ⟨_, _, run_endRound none hL8, rfl, ⟨⟨v', (World.putObj_heap_other hBl).trans hv8, ?_, ?_⟩, World.putObj_heap_same hl8, (World.putObj_heap_other hDl).trans hK8, hb8.grown (grownBy_putObj_a _ _ _) hb8.size (fun k e => by cases e; exact h0l)⟩, hk8.trans (KeepsWalks.putObj _ hL8 rfl)⟩
  · have := hrow8.kept (grownBy_putObj_a w8 l (.loop { { apRec fn sv Bs D .ready none with state := .busy } with state := if (none : Option Code).isNone then .ready else .done, pending := none })) (ownsRow_ne_a hrow8 hL8 (fun cur e => by cases e))
    simpa [Sl.all_append, dl] using this
  · rw [hnil7]; simp
set_option maxRecDepth 100000 in
set_option maxHeartbeats 4000000 in
theorem appendSeq_in (F : Fence) (n : Nat) (hf : F.fn 50) (hro : F.round = none) (hn : 2 ≤ n) (g : Nat) (lb : Array Value) (hFg : F.fn g) (eg : ∀ args w, (callFunc g args).run Tryd.prog w = .ok (.enter g args) w)
    (S : List D32 → Prop) (N : Nat) (hN : N ≤ maxLen) (hNb : N * 32 ≤ 140737488355328) (w : World) (hseq : SeqGives F (n - 1) Tryd.prog g lb encD S N w) :
    CallsIn F n Tryd.prog 50 #[.slice none 0 0, .func (.func g) #[] lb] w fun e w' => ∃ (v : Value) (ss : List D32), e = .returned v ∧ S ss ∧ w'.ownsRow w.heap.size 29 32 v ss.length (kD.all (dl ss)) ∧ (v = .slice none 0 0 ↔ ss = []) ∧ Below w.heap.size w w' := by
  have h1 : 1 ≤ n := by omega
  refine callsIn_of_wp_marks Tryd.func50 rfl hf ?_ hro
  simp only [Tryd.ntmps50, List.size_toArray, List.length_cons, List.length_nil, Nat.reduceAdd, Nat.reduceSub, Array.replicate_succ, Array.replicate_zero, List.push_toArray, List.append_toArray, List.nil_append, List.cons_append]
  gi_wp2
  refine wpIn_rangeFunc ?_
  intro fn hfn
  rw [hro]
  obtain ⟨W0, hW0⟩ : ∃ W0, w.alloc (.cells #[.slice none 0 0] 75) = W0 := ⟨_, rfl⟩
  have hs0 : W0.heap.size = w.heap.size + 1 := by rw [← hW0]; simp
  have hv0 : W0.heap[w.heap.size]? = some (.cells #[.slice none 0 0] 75 (0, 0)) := by rw [← hW0]; exact World.alloc_heap_new w _
  have hb0 : Below w.heap.size w W0 := by rw [← hW0]; exact (Below.refl _ w).alloc (Nat.le_refl _) _
  rw [hW0]
  obtain ⟨W1, hW1⟩ : ∃ W1, (W0.alloc (.deferred (some []))).alloc (.loop (apRec fn (.func (.func g) #[] lb) w.heap.size W0.heap.size .ready none)) = W1 := ⟨_, rfl⟩
  have hold : ∀ k, k < W0.heap.size → W1.heap[k]? = W0.heap[k]? := fun k hk => by
    rw [← hW1]; exact (Below.heap_alloc _ _ k (by simp; omega)).trans (Below.heap_alloc _ _ k hk)
  have hb1 : Below w.heap.size w W1 := by rw [← hW1]; exact (hb0.alloc hb0.size _).alloc (by have := hb0.size; simp; omega) _
  have hs1 : W1.heap.size = W0.heap.size + 2 := by rw [← hW1]; simp
  have hM : ApAt w fn (.func (.func g) #[] lb) w.heap.size (W0.heap.size + 1) W0.heap.size [] W1 :=
    ⟨⟨_, (hold w.heap.size (by omega)).trans hv0, ⟨rfl, .inl ⟨rfl, rfl⟩⟩, by simp⟩,
     by rw [← hW1]; have := World.alloc_heap_new (W0.alloc (.deferred (some []))) (.loop (apRec fn (.func (.func g) #[] lb) w.heap.size W0.heap.size .ready none)); rwa [World.size_alloc] at this,
     by rw [← hW1]; exact (Below.heap_alloc _ _ _ (by simp)).trans (World.alloc_heap_new W0 _), hb1⟩
  refine ⟨W0.heap.size + 1, [{ target := .collected W0.heap.size, args := #[] }], W1, { target := .fn (.func g) lb, args := #[.func (.yield (W0.heap.size + 1)) #[] #[]] }, W1, g,
    #[.func (.yield (W0.heap.size + 1)) #[] #[]] ++ lb, W1, ?_, ?_, ?_, ?_, fun _ => h1, ?_⟩
  · rw [← hW1]; exact run_enterLoop_outer _ _ _ _ _
  · simp [resolve, go_sem]
  · intro f' hf'; simp [Target.leads] at hf'; subst hf'; exact hFg
  · simp [invoke, go_sem, eg]
  · refine (hseq (W0.heap.size + 1) (ApAt w fn (.func (.func g) #[] lb) w.heap.size (W0.heap.size + 1) W0.heap.size) W1 hb1 (ap_abides _ _ _ _ _ _ _ hb1.size)
      (fun pre x W hJ hl => apYield F (n - 1 - 1) w fn hfn _ w.heap.size (W0.heap.size + 1) W0.heap.size (by omega) (by omega) (by omega) (Nat.le_refl _) (by omega) N hN hNb pre x W hJ hl) hM).mono ?_
    rintro e W2 ⟨⟨v0, rfl⟩, ss, hS, h2⟩
    obtain ⟨v, hv, hrow, hnil⟩ := h2.box
    have hend := run_endLoop (P := Tryd.prog) h2.L (by simp [apRec])
    obtain ⟨W3, hW3⟩ : ∃ W3, W2.putObj (W0.heap.size + 1) (.loop { apRec fn (.func (.func g) #[] lb) w.heap.size W0.heap.size .ready none with state := .exhausted }) = W3 := ⟨_, rfl⟩
    rw [hW3] at hend
    have hg3 : W2.grownBy W3 (some (W0.heap.size + 1)) := by rw [← hW3]; exact grownBy_putObj_a _ _ _
    have hv3 : W3.heap[w.heap.size]? = some (.cells #[v] 75 (0, 0)) := by rw [← hW3]; exact (World.putObj_heap_other (by omega)).trans hv
    have hK3 : W3.heap[W0.heap.size]? = some (.deferred (some [])) := by rw [← hW3]; exact (World.putObj_heap_other (by omega)).trans h2.K
    have hrow3 := hrow.kept hg3 (ownsRow_ne_a hrow h2.L (fun cur e => by cases e))
    have hb3 : Below w.heap.size w W3 := h2.below.grown hg3 h2.below.size (fun k e => by cases e; omega)
    obtain ⟨hc3, hf3⟩ := cell_of_box_a hv3
    clear hW3
    refine ⟨none, W3, hend, ?_⟩
    gi_wp2
    rw [← hs0]
    refine ⟨by simp, .inl ⟨_, _, rfl, run_takeDeferred hK3, ?_⟩⟩
    exact ⟨_, results_tmp rfl _ _ _, v, ss, rfl, hS, hrow3.kept (grownBy_putObj_a _ _ _) (ownsRow_ne_a hrow3 hK3 (fun cur e => by cases e)), hnil, hb3.grown (grownBy_putObj_a _ _ _) hb3.size (fun k e => by cases e; omega)⟩
set_option maxHeartbeats 1000000 in
theorem collect_in (F : Fence) (n : Nat) (hf : F.fn 37) (hf' : F.fn 50) (hro : F.round = none) (hn : 3 ≤ n) (g : Nat) (lb : Array Value) (hFg : F.fn g) (eg : ∀ args w, (callFunc g args).run Tryd.prog w = .ok (.enter g args) w)
    (S : List D32 → Prop) (N : Nat) (hN : N ≤ maxLen) (hNb : N * 32 ≤ 140737488355328) (w : World) (hseq : SeqGives F (n - 1 - 1) Tryd.prog g lb encD S N w) :
    CallsIn F n Tryd.prog 37 #[.func (.func g) #[] lb] w fun e w' => ∃ (v : Value) (ss : List D32), e = .returned v ∧ S ss ∧ w'.ownsRow w.heap.size 29 32 v ss.length (kD.all (dl ss)) ∧ (v = .slice none 0 0 ↔ ss = []) ∧ Below w.heap.size w w' := by
  have h1 : 1 ≤ n := by omega
  have e50 : ∀ args w, (callFunc 50 args).run Tryd.prog w = .ok (.enter 50 args) w := enters_of Tryd.func50 (by kernel_rfl) rfl
  refine callsIn_of_wp Tryd.func37 rfl hf ?_ hro
  simp only [Tryd.ntmps37, List.size_toArray, List.length_cons, List.length_nil, Nat.reduceAdd, Nat.reduceSub, Array.replicate_succ, Array.replicate_zero, List.push_toArray, List.append_toArray, List.nil_append, List.cons_append]
  gi_wp2_with (gi_at_fn 50; refine (appendSeq_in F (n - 1) hf' hro (by omega) g lb hFg eg S N hN hNb _ hseq).mono ?_; rintro e w' ⟨v, ss, rfl, hS, hrow, hnil, hb⟩)
  go_ret
  exact ⟨v, ss, rfl, hS, hrow, hnil, hb⟩
/-- Both, in the open. -/
theorem keys_any (mb : Nat) (w : World) : Calls Tryd.prog 38 #[.map (some mb)] w fun e w' => e = .returned (.func (.func 51) #[] #[.pointer (some ⟨w.heap.size, 0, none⟩)]) ∧ w' = w.alloc (.cells #[.map (some mb)] 65) :=
  callsIn_wide.1 (keys_in Fence.wide 5 trivial rfl (some mb) w)
theorem collect_any {β : Type} (U : β → Value) (L : List (List Nat × β)) (hL : ∀ p ∈ L, H32 p.1) (hl : L.length ≤ 1000000) (B b : Nat) (w : World) (hB : Row w B 65 [.map (some b)]) (hown : KMap w b hashV U hashOk L) :
    Calls Tryd.prog 37 #[.func (.func 51) #[] #[.pointer (some ⟨B, 0, none⟩)]] w fun e w' => ∃ (ds : List (List Nat)) (p : Option Addr) (cap : Nat), e = .returned (.slice p ds.length cap) ∧ ds.Perm (L.map Prod.fst) ∧ Sl.Own kD w' w.heap.size p cap ds ∧ Below w.heap.size w w' := by
  refine (callsIn_wide.1 (collect_in Fence.wide 5 trivial trivial rfl (by omega) 51 #[.pointer (some ⟨B, 0, none⟩)] trivial (enters_of Tryd.func51 (by kernel_rfl) rfl) _ L.length (by unfold maxLen; omega) (by omega) w
    (keys_gives U L hL Fence.wide _ trivial rfl (by omega) B b w hB.lt (hB.cell rfl) hown))).mono ?_
  rintro e w' ⟨v, ss, rfl, hS, hrow, _, hb⟩
  have hrow' : w'.ownsRow w.heap.size 29 32 v (dl ss).length (kD.all (dl ss)) := by rw [List.length_map]; exact hrow
  obtain ⟨p, cap, rfl, ho⟩ := Sl.Own.of_slice (K := kD) hrow' (dl_ok ss)
  exact ⟨dl ss, p, cap, rfl, hS, ho, hb⟩
end Go.Proofs.YtnjmocobncncdaaDoor.So
