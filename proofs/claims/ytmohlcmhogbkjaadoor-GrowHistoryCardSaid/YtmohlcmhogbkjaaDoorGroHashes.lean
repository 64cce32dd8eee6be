/-
  Slices of digests: those that came in, and those that the call makes itself and appends to; slices of numbers as rows. Over this seat's translation.
-/
import Derived.Test.YtmohlcmhogbkjaaDoorEpoReads
import Derived.Test.YtmohlcmhogbkjaaDoorEpoAll
import Derived.Test.YtmohlcmhogbkjaaDoorMemAll
import Derived.Test.YtmohlcmhogbkjaaDoorBytAll
import Derived.Test.YtmohlcmhogbkjaaDoorWireAll
import Derived.Deep.Slices
import Derived.Maps.AppendAt
namespace Go.Proofs.YtmohlcmhogbkjaaDoor.Gr
open Go.ChangeShapes Go.WideShapes Go.ChangeAt Go.RowKit Go.Proofs.YtmohlcmhogbkjaaDoor.Mem Go.Proofs.YtmohlcmhogbkjaaDoor.Bt Go.Proofs.YtmohlcmhogbkjaaDoor.Tg Go.Proofs.YtmohlcmhogbkjaaDoor.Sha Go.Proofs.YtmohlcmhogbkjaaDoor.Wd
open Go.Proofs.YtmohlcmhogbkjaaDoor.Ep (H32 zh zh_ok num32 Has h_len one_app one_num szH zH fitH allH h32_of)
open Go.Proofs.YtmohlcmhogbkjaaDoor.Wi (blk)
set_option linter.unusedVariables false
set_option linter.unusedSimpArgs false

def xcs (l : List (List Nat)) : List Value := l.flatMap u8s
def AllH (l : List (List Nat)) : Prop := ∀ x ∈ l, H32 x
theorem xcs_cons (x : List Nat) (l : List (List Nat)) : xcs (x :: l) = u8s x ++ xcs l := List.flatMap_cons
theorem xcs_append (l m : List (List Nat)) : xcs (l ++ m) = xcs l ++ xcs m := List.flatMap_append
theorem xcs_one1 (x : List Nat) : xcs [x] = u8s x := by rw [xcs_cons]; exact List.append_nil _
theorem AllH.tail {x : List Nat} {l : List (List Nat)} (h : AllH (x :: l)) : AllH l := fun c hc => h c (by simp [hc])
theorem AllH.snoc {x : List Nat} {l : List (List Nat)} (h : AllH l) (k : H32 x) : AllH (l ++ [x]) := fun c hc => by
  rcases List.mem_append.1 hc with hc | hc
  · exact h c hc
  · rw [List.mem_singleton.1 hc]; exact k
theorem xcs_len : ∀ l : List (List Nat), AllH l → (xcs l).length = l.length * 32
  | [], _ => rfl
  | x :: l, h => by
    rw [xcs_cons, List.length_append, h_len (h x (by simp)), xcs_len l h.tail, List.length_cons]
    omega
theorem xcs_ones : ∀ l : List (List Nat), OneCells (xcs l)
  | [] => fun v hv => by cases hv
  | x :: l => by rw [xcs_cons]; exact one_app (u8s_one x) (xcs_ones l)
theorem front {cs a vs : List Value} {o n : Nat} (h : Has cs o vs) (hn : a.length = n) : Has (a ++ cs) (n + o) vs := by
  obtain ⟨p, r, e, hp⟩ := h.ex
  exact ⟨a ++ p, r, by rw [e, List.append_assoc], by rw [List.length_append, hp, hn]⟩
theorem xcs_has : ∀ (l : List (List Nat)), AllH l → ∀ (k : Nat) (x : List Nat), l[k]? = some x → Has (xcs l) (k * 32) (u8s x)
  | [], _, k, x, h => by simp at h
  | c :: l, hl, 0, x, h => by
    obtain rfl : c = x := by simpa using h
    rw [xcs_cons, Nat.zero_mul]
    exact (Has.refl (u8s c ++ xcs l)).left
  | c :: l, hl, k + 1, x, h => by
    have := xcs_has l hl.tail k x (by simpa using h)
    rw [xcs_cons, show (k + 1) * 32 = 32 + k * 32 by omega]
    exact front this (h_len (hl c (by simp)))
/-- Digests that lie in memory. -/
structure Hs (w : World) (p : Option Addr) (l : List (List Nat)) : Prop where
  at_ : ∀ k x, l[k]? = some x → ∃ g o, p = some ⟨g, o, none⟩ ∧ g < w.heap.size ∧ w.rangeAt g (o + k * 32) (u8s x)
  ok : AllH l
theorem Hs.below {w w' : World} {p : Option Addr} {l : List (List Nat)} (h : Hs w p l) (hb : Below w.heap.size w w') : Hs w' p l :=
  ⟨fun k x hk => by
    obtain ⟨g, o, e, hg, hr⟩ := h.at_ k x hk
    exact ⟨g, o, e, Nat.lt_of_lt_of_le hg hb.size, range_block hr (hb.block g hg)⟩, h.ok⟩
theorem und_hs : Tryd.prog.underlying 51 = some (.slice 23) := by kernel_rfl
instance : Inhabited (List Nat) := ⟨zh⟩
section
variable {H : Type} {enc : TypeId × Value → H} {w : World} {base : Nat} {spare : Nat → Bool} {held : Bool} {fuel : Nat} {cs : List Value} {x : DataW H × List MemPlace}
theorem hs_of (h : DataW.trod enc Tryd.prog w base spare held fuel 51 cs = some x) : ∃ (P : Option Addr) (l : List (List Nat)) (cap : Nat), cs = [.slice P l.length cap] ∧ Hs w P l ∧ l.length ≤ maxLen := by
  have c2 : Tryd.prog.cellsOf 23 = 32 := by kernel_rfl
  rcases Deep.open_slice und_hs h with ⟨rfl, _⟩ | ⟨a, len, cap, m, k, D, Pl, rfl, _, hlc, hcm, hmm, _, hV⟩
  · exact ⟨none, [], 0, rfl, ⟨fun k b h => by simp at h, fun b h => by cases h⟩, by simp⟩
  · have hlm : len ≤ m := by rw [hmm]; split <;> omega
    rw [c2] at hV
    obtain ⟨f, hf⟩ := Deep.choose_lt (α := List Nat) (n := len) (p := fun i y => (∀ j, j < 32 → w.cell? ((a.add (i * 32)).add j) = (u8s y)[j]?) ∧ H32 y) (fun i hi => by
      obtain ⟨cs', h1, h2⟩ := hV i (by omega)
      obtain ⟨y, rfl, hok⟩ := h32_of h2
      obtain ⟨_, _, hcell⟩ := World.cells?_some h1
      exact ⟨y, hcell, hok⟩)
    have hll : ((List.range len).map f).length = len := by simp
    have hok : AllH ((List.range len).map f) := fun b hb => by
      obtain ⟨i, hi, rfl⟩ := List.mem_map.1 hb
      exact (hf i (List.mem_range.1 hi)).2
    refine ⟨some a, (List.range len).map f, cap, by rw [hll], ⟨fun k b hk => ?_, hok⟩, by rw [hll]; omega⟩
    have hkl : k < len := by have := (List.getElem?_eq_some_iff.1 hk).1; omega
    have hb : f k = b := by
      rw [List.getElem?_map, List.getElem?_range hkl] at hk
      exact Option.some.inj hk
    obtain ⟨hc, hko⟩ := hf k hkl
    rw [hb] at hc hko
    obtain ⟨v0, hv0⟩ : ∃ v, (u8s (f 0))[0]? = some v := ⟨_, List.getElem?_eq_getElem (by rw [h_len (hf 0 (by omega)).2]; omega)⟩
    have hc0 : w.cell? (a.add 0) = some v0 := by
      have := (hf 0 (by omega)).1 0 (by omega)
      rw [Nat.zero_mul] at this
      have e : (a.add 0).add 0 = a.add 0 := by simp [Addr.add]
      rw [e] at this
      rw [this]; exact hv0
    have hsp := spot_none hc0
    obtain ⟨g, o, sp⟩ := a
    simp only at hsp
    subst hsp
    have hr : w.rangeAt g (o + k * 32) (u8s b) := fun j v hj => by
      have hj2 := (List.getElem?_eq_some_iff.1 hj).1
      rw [h_len hko] at hj2
      have := hc j hj2
      rw [Addr.add_mid, Addr.add_mid] at this
      rw [this]
      exact hj
    exact ⟨g, o, rfl, range_lt hr (by intro e; have := h_len hko; rw [e] at this; simp at this), hr⟩
end
/-- A slice of digests that the call made itself. -/
structure OwnH (w : World) (base : Nat) (p : Option Addr) (cap : Nat) (l : List (List Nat)) : Prop where
  own : w.ownsRow base 23 32 (.slice p l.length cap) l.length (xcs l)
  ok : AllH l
theorem OwnH.of_slice {w : World} {base : Nat} {v : Value} {l : List (List Nat)} (h : w.ownsRow base 23 32 v l.length (xcs l)) (k : AllH l) : ∃ p cap, v = .slice p l.length cap ∧ OwnH w base p cap l := by
  rcases h.2 with ⟨hv, hn⟩ | ⟨g, cap, cur, hv, _⟩
  · exact ⟨none, 0, by rw [hv, hn], ⟨by rw [← show v = .slice none l.length 0 from by rw [hv, hn]]; exact h, k⟩⟩
  · exact ⟨_, _, hv, ⟨by rw [← hv]; exact h, k⟩⟩
/-- As a row of whole blocks: what stays with the row stays with the slice. -/
theorem OwnH.as_row {w : World} {base : Nat} {p : Option Addr} {cap : Nat} {l : List (List Nat)} (h : OwnH w base p cap l) (hn : 0 < l.length) : ∃ g cs, p = some ⟨g, 0, none⟩ ∧ base ≤ g ∧ Row w g 23 cs ∧ (∀ k x, l[k]? = some x → Has cs (k * 32) (u8s x)) ∧ ∀ w', Row w' g 23 cs → OwnH w' base p cap l := by
  rcases h.own.2 with ⟨hv, hl⟩ | ⟨g, cap', cur, hv, hg, hh, hc, hm, hs, ht⟩
  · omega
  · obtain ⟨rfl, -, rfl⟩ : p = some ⟨g, 0, none⟩ ∧ l.length = l.length ∧ cap = cap' := by simpa using hv
    refine ⟨g, cur.toList, rfl, hg, by rw [← Array.toArray_toList (xs := cur)] at hh; exact hh, fun k x hk => ?_, fun w' hw => ⟨⟨h.own.1, .inr ⟨g, cap, cur, rfl, hg, by have := hw; unfold Row at this; rw [Array.toArray_toList] at this; exact this, hc, hm, hs, ht⟩⟩, h.ok⟩⟩
    have hx := xcs_has l h.ok k x hk
    obtain ⟨a, r, e, ha⟩ := hx.ex
    refine ⟨a, r ++ cur.toList.drop (l.length * 32), ?_, ha⟩
    exact (List.take_append_drop (l.length * 32) cur.toList).symm.trans (by rw [ht, e]; simp only [List.append_assoc])
/-- The same of a slice of numbers. -/
theorem O32.as_row {w : World} {base : Nat} {p : Option Addr} {cap : Nat} {xs : List Nat} (h : O32 w base p cap xs) (hn : 0 < xs.length) : ∃ g cs, p = some ⟨g, 0, none⟩ ∧ base ≤ g ∧ Row w g 24 cs ∧ ∀ w', Row w' g 24 cs → O32 w' base p cap xs := by
  rcases h.own.2 with ⟨hv, hl⟩ | ⟨g, cap', cur, hv, hg, hh, hc, hm, hs, ht⟩
  · omega
  · obtain ⟨rfl, -, rfl⟩ : p = some ⟨g, 0, none⟩ ∧ xs.length = xs.length ∧ cap = cap' := by simpa using hv
    exact ⟨g, cur.toList, rfl, hg, by rw [← Array.toArray_toList (xs := cur)] at hh; exact hh, fun w' hw => ⟨⟨h.own.1, .inr ⟨g, cap, cur, rfl, hg, by have := hw; unfold Row at this; rw [Array.toArray_toList] at this; exact this, hc, hm, hs, ht⟩⟩⟩⟩
theorem row_ne {w : World} {a b : Nat} {t u : TypeId} {cs ds : List Value} (h : Row w a t cs) (g : Row w b u ds) (hne : t ≠ u) : a ≠ b := fun e => by
  subst e
  exact hne (Obj.cells.inj (Option.some.inj ((show w.heap[a]? = _ from h).symm.trans g))).2.1
theorem info_h : (Tryd.prog.info? 23).map (fun i => (i.zero, i.size, i.bytes)) = some (some (.agg (u8s zh).toArray), 32, 32) := by kernel_rfl
theorem zeros_h : (Array.range (1 * 32)).map (fun k => (u8s zh).toArray[k % (u8s zh).toArray.size]!) = (u8s zh).toArray := by kernel_rfl
set_option maxRecDepth 100000 in
theorem bs_h {x : List Nat} (k : H32 x) (w : World) : (Instr.buildSlice 51 1 #[(0, .agg (u8s x).toArray)]).run Tryd.prog w = .ok (.slice (some ⟨w.heap.size, 0, none⟩) 1 1) (w.alloc (.cells (u8s x).toArray 23)) := by
  obtain ⟨i, hi, hz, hs, _⟩ := info_parts info_h
  have hsz : (sizeOf 23).run Tryd.prog w = .ok 32 w := by rw [run_sizeOf w hi, show Tryd.prog.cellsOf 23 = 32 by kernel_rfl]
  have hf : Instr.fill (fun i => some (i * 32, 32)) (u8s zh).toArray [(0, .agg (u8s x).toArray)] = some (u8s x).toArray := by
    rw [fill_step _ (u8s zh) 0 0 32 _ (u8s x) [] rfl rfl (h_len k) (by rw [h_len zh_ok]; omega), fill_done, allH k]
  have hzv : (zeroValue 23).run Tryd.prog w = .ok (.agg (u8s zh).toArray) w := by
    simp [zeroValue, typeInfo, hi, hz]
  unfold Instr.buildSlice
  simp only [Sem.run_bind, run_underlying und_hs, Result.andThen_ok, hsz, show ¬ (1 * 32 > 2 ^ 24) by decide, show ¬ (1 * 32 = 0) by decide, if_false, Sem.run_pure, hzv, Value.cells, zeros_h, hf]
  simp [newRow]
section
variable {ops : Array Oper} {rest : List Oper} {o : Oper} {a : Act} {w : World} {Q : Exit → Act → World → Prop}
/-- '[]Hash{x}'. -/
theorem arm_oneH (hgd : o.guard = none) (parts : Array (Nat × Operand)) (ho : o.op = .buildSlice 51 1 parts) (x : List Nat) (k : H32 x) (hpv : (parts.map fun (i, y) => (i, a.eval y)) = #[(0, .agg (u8s x).toArray)])
    (h : ∀ b w2, Hid (b = w.heap.size) → Row w2 b 23 (u8s x) → New w w2 → wpList Tryd.prog ops Q rest (a.put o.dst (.slice (some ⟨b, 0, none⟩) 1 1)) w2) : wpList Tryd.prog ops Q (o :: rest) a w := by
  refine wpList_plain hgd fun K hK => ?_
  unfold Oper.wp execOp
  simp only [ho, hpv, Sem.run_bind, bs_h k, Result.andThen_ok, Sem.run_pure]
  exact hK _ _ (h _ _ rfl (heap_alloc_new _ _) (new_alloc _ _))
/-- 'append(l, x)'. -/
theorem arm_appendH (hgd : o.guard = none) (s x : Operand) (ho : o.op = .call { callee := .builtin .append, args := #[s, x], argTypes := #[51, 51] }) (base : Nat) (p : Option Addr) (n cap : Nat) (l : List (List Nat)) (hn : n = l.length)
    (hs : a.eval s = .slice p n cap) (hown : OwnH w base p cap l) (b : Nat) (y : List Nat) (ky : H32 y) (hx : a.eval x = .slice (some ⟨b, 0, none⟩) 1 1) (hr : Row w b 23 (u8s y)) (hz : l.length ≤ 1000) (hb : base ≤ w.heap.size)
    (h : ∀ p' cap' w', OwnH w' base p' cap' (l ++ [y]) → Below base w w' → Hid (∀ (c : Nat) (t : TypeId) (cs : List Value), blk p ≠ some c → Row w c t cs → Row w' c t cs) → Hid (blk p' = blk p ∨ blk p' = some w.heap.size) → wpList Tryd.prog ops Q rest (a.put o.dst (.slice p' (l.length + 1) cap')) w') : wpList Tryd.prog ops Q (o :: rest) a w := by
  subst hn
  obtain ⟨i0, hi, hz0, hz1, hz2⟩ := info_parts info_h
  have e1 : ∀ (p : Option Addr) (n c : Nat), (Value.slice p n c).ownBlock = blk p := fun p n c => by cases p <;> rfl
  refine wpList_append_own_at w hgd s x 51 ho base 23 i0 (.agg (u8s zh).toArray) 32 32 und_hs hi hz0 hz1 hz2 (by rw [show (Value.agg (u8s zh).toArray).cells = (u8s zh).toArray from rfl, List.size_toArray, h_len zh_ok]) (by decide) _ _ _ hs hown.own ⟨b, 0, none⟩ 1 1 (u8s y) hx (by rw [h_len ky]) (fun j u hj => by rw [Addr.add_mid]; have := (Has.refl (u8s y)).range hr j u hj; rwa [Nat.zero_add] at this ⊢) (u8s_one _) (by unfold maxLen; omega) (by omega) hb ?_
  intro v' w' hown' hgrow _ hat
  rw [show xcs l ++ u8s y = xcs (l ++ [y]) by rw [xcs_append, xcs_one1], show l.length + 1 = (l ++ [y]).length by simp] at hown'
  obtain ⟨p', cap', hv, hO⟩ := OwnH.of_slice hown' (hown.ok.snoc ky)
  rw [hv, e1, e1] at hat
  rw [e1] at hgrow
  rw [hv, show (l ++ [y]).length = l.length + 1 by simp]
  refine h p' cap' w' hO ⟨hgrow.os, hgrow.tape, hgrow.output, hgrow.size, fun k hk => hgrow.block k (by omega) (fun e => ?_)⟩ (Lib.hid fun c t cs hc hrow => hrow.of_block (hgrow.block c hrow.lt (fun e => hc e.symm))) (Lib.hid hat)
  rcases hown.own.2 with ⟨hv0, _⟩ | ⟨g, cap0, cur, hv0, hg, _⟩
  · have : p = none := by simpa using congrArg (fun v => match v with | .slice q _ _ => q | _ => none) hv0
    rw [this] at e; cases e
  · have hp : p = some ⟨g, 0, none⟩ := by simpa using congrArg (fun v => match v with | .slice q _ _ => q | _ => none) hv0
    rw [hp] at e
    have : k = g := Option.some.inj e
    omega
/-- 'append(l, n)' of a number. -/
theorem arm_append32 (hgd : o.guard = none) (s x : Operand) (ho : o.op = .call { callee := .builtin .append, args := #[s, x], argTypes := #[50, 50] }) (base : Nat) (p : Option Addr) (n cap : Nat) (xs : List Nat) (hn : n = xs.length)
    (hs : a.eval s = .slice p n cap) (hown : O32 w base p cap xs) (g : Nat) (y : Nat) (hx : a.eval x = .slice (some ⟨g, 0, none⟩) 1 1) (hr : Row w g 24 (u32s [y])) (hz : xs.length ≤ 1000) (hb : base ≤ w.heap.size)
    (h : ∀ p' cap' w', O32 w' base p' cap' (xs ++ [y]) → Below base w w' → Hid (∀ (c : Nat) (t : TypeId) (cs : List Value), t ≠ 24 → Row w c t cs → Row w' c t cs) → wpList Tryd.prog ops Q rest (a.put o.dst (.slice p' (xs.length + 1) cap')) w') : wpList Tryd.prog ops Q (o :: rest) a w := by
  refine wpList_plain hgd fun K hK => ?_
  obtain ⟨p', cap', w', hrun, h1, h2, h3⟩ := run_op_append32 (o := o) (a := a) (w := w) s x ho base p n cap xs hn hs hown g 1 1 [y] hx rfl (hr.range 0 _ (fun j v hj => by rw [Nat.zero_add]; exact hj)) (by simp; omega) hb
  unfold Oper.wp
  rw [hrun, hn]
  exact hK _ _ (h p' cap' w' h1 h2 (Lib.hid h3))
end
end Go.Proofs.YtmohlcmhogbkjaaDoor.Gr
