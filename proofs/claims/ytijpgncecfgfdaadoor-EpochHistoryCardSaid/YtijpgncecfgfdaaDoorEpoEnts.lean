/-
  Rows of a history's blocks in memory: those that lie there, and those that the call appends to. Over this seat's translation.
-/
import Derived.Test.YtijpgncecfgfdaaDoorEpoMem
import Derived.Test.YtijpgncecfgfdaaDoorMemAll
import Derived.Deep.OwnRows
import Derived.OwnWalk
namespace Go.Proofs.YtijpgncecfgfdaaDoor.Ep
open Go.ChangeShapes Go.WideShapes Go.ChangeAt Go.RowKit Go.Proofs.YtijpgncecfgfdaaDoor.Mem Go.Proofs.YtijpgncecfgfdaaDoor.Bt Go.Proofs.YtijpgncecfgfdaaDoor.Sha
set_option linter.unusedVariables false
set_option linter.unusedSimpArgs false

/-- Blocks' cells, one behind the other. -/
def ecs (l : List Blk) : List Value := l.flatMap bcs
def AllOk (l : List Blk) : Prop := ∀ b ∈ l, b.Ok
theorem ecs_cons (b : Blk) (l : List Blk) : ecs (b :: l) = bcs b ++ ecs l := List.flatMap_cons
theorem ecs_append (l m : List Blk) : ecs (l ++ m) = ecs l ++ ecs m := List.flatMap_append
theorem ecs_one (b : Blk) : ecs [b] = bcs b := by rw [ecs_cons]; exact List.append_nil _
theorem AllOk.tail {b : Blk} {l : List Blk} (h : AllOk (b :: l)) : AllOk l := fun c hc => h c (by simp [hc])
theorem AllOk.snoc {b : Blk} {l : List Blk} (h : AllOk l) (k : b.Ok) : AllOk (l ++ [b]) := fun c hc => by
  rcases List.mem_append.1 hc with hc | hc
  · exact h c hc
  · rw [List.mem_singleton.1 hc]; exact k
theorem AllOk.get {l : List Blk} (h : AllOk l) {k : Nat} {b : Blk} (hk : l[k]? = some b) : b.Ok := h b (List.mem_of_getElem? hk)
theorem ecs_len : ∀ l : List Blk, AllOk l → (ecs l).length = l.length * 98
  | [], _ => rfl
  | b :: l, h => by
    rw [ecs_cons, List.length_append, bcs_len (h b (by simp)), ecs_len l h.tail, List.length_cons]
    omega
theorem ecs_ones : ∀ l : List Blk, OneCells (ecs l)
  | [] => fun v hv => by cases hv
  | b :: l => by rw [ecs_cons]; exact one_app (bcs_one b) (ecs_ones l)
theorem Has.front {cs a vs : List Value} {o n : Nat} (h : Has cs o vs) (hn : a.length = n) : Has (a ++ cs) (n + o) vs := by
  obtain ⟨p, r, e, hp⟩ := h.ex
  exact ⟨a ++ p, r, by rw [e, List.append_assoc], by rw [List.length_append, hp, hn]⟩
theorem ecs_has : ∀ (l : List Blk), AllOk l → ∀ (k : Nat) (b : Blk), l[k]? = some b → Has (ecs l) (k * 98) (bcs b)
  | [], _, k, b, h => by simp at h
  | c :: l, hl, 0, b, h => by
    obtain rfl : c = b := by simpa using h
    rw [ecs_cons, Nat.zero_mul]
    exact (Has.refl (bcs c ++ ecs l)).left
  | c :: l, hl, k + 1, b, h => by
    have := ecs_has l hl.tail k b (by simpa using h)
    rw [ecs_cons, show (k + 1) * 98 = 98 + k * 98 by omega]
    exact this.front (bcs_len (hl c (by simp)))
theorem Has.rangeAt {w : World} {g o i : Nat} {cs vs : List Value} (h : Has cs i vs) (hr : w.rangeAt g o cs) : w.rangeAt g (o + i) vs := fun j v hj => by
  obtain ⟨p, r, e, hp⟩ := h.ex
  rw [Nat.add_assoc]
  refine hr (i + j) v ?_
  rw [e, List.getElem?_append_right (by omega), hp, Nat.add_sub_cancel_left, List.getElem?_append_left (List.getElem?_eq_some_iff.1 hj).1]
  exact hj
/-- Blocks that lie in memory. -/
structure Ents (w : World) (p : Option Addr) (l : List Blk) : Prop where
  at_ : 0 < l.length → ∃ g o, p = some ⟨g, o, none⟩ ∧ w.rangeAt g o (ecs l)
  ok : AllOk l
theorem Ents.get {w : World} {p : Option Addr} {l : List Blk} (h : Ents w p l) {k : Nat} {b : Blk} (hk : l[k]? = some b) : ∃ g o, p = some ⟨g, o, none⟩ ∧ g < w.heap.size ∧ w.rangeAt g (o + k * 98) (bcs b) := by
  obtain ⟨hlt, _⟩ := List.getElem?_eq_some_iff.1 hk
  obtain ⟨g, o, e, hr⟩ := h.at_ (by omega)
  have hs := (ecs_has l h.ok k b hk).rangeAt hr
  exact ⟨g, o, e, range_lt hs (by unfold bcs; exact List.cons_ne_nil _ _), hs⟩
theorem Ents.below {w w' : World} {p : Option Addr} {l : List Blk} (h : Ents w p l) (hb : Below w.heap.size w w') : Ents w' p l :=
  ⟨fun hn => by
    obtain ⟨g, o, e, hr⟩ := h.at_ hn
    cases hl : l with
    | nil => rw [hl] at hn; simp at hn
    | cons b r =>
      have hne : ecs l ≠ [] := by rw [hl, ecs_cons]; unfold bcs; simp
      rw [← hl]
      exact ⟨g, o, e, range_block hr (hb.block g (range_lt hr hne))⟩, h.ok⟩
/-- A slice of blocks that the call made itself. -/
structure OwnE (w : World) (base : Nat) (p : Option Addr) (cap : Nat) (l : List Blk) : Prop where
  own : w.ownsRow base 54 98 (.slice p l.length cap) l.length (ecs l)
  ok : AllOk l
theorem OwnE.of_slice {w : World} {base : Nat} {v : Value} {l : List Blk} (h : w.ownsRow base 54 98 v l.length (ecs l)) (k : AllOk l) : ∃ p cap, v = .slice p l.length cap ∧ OwnE w base p cap l := by
  rcases h.2 with ⟨hv, hn⟩ | ⟨g, cap, cur, hv, _⟩
  · exact ⟨none, 0, by rw [hv, hn], ⟨by rw [← show v = .slice none l.length 0 from by rw [hv, hn]]; exact h, k⟩⟩
  · exact ⟨_, _, hv, ⟨by rw [← hv]; exact h, k⟩⟩
theorem OwnE.nil (w : World) (base : Nat) : OwnE w base none 0 [] := ⟨⟨rfl, .inl ⟨rfl, rfl⟩⟩, fun b h => by cases h⟩
theorem OwnE.ents {w : World} {base : Nat} {p : Option Addr} {cap : Nat} {l : List Blk} (h : OwnE w base p cap l) : Ents w p l := by
  refine ⟨fun hpos => ?_, h.ok⟩
  rcases h.own.2 with ⟨hv, hn⟩ | ⟨g, cap', cur, hv, hg, hh, hc, _, hs, ht⟩
  · omega
  · obtain ⟨rfl, -, rfl⟩ : p = some ⟨g, 0, none⟩ ∧ l.length = l.length ∧ cap = cap' := by simpa using hv
    refine ⟨g, 0, rfl, fun j v hj => ?_⟩
    rw [Nat.zero_add]
    rw [← ht, List.getElem?_take] at hj
    split at hj
    · simp only [World.cell?, hh]
      simpa using hj
    · cases hj
theorem OwnE.below {w w' : World} {base : Nat} {p : Option Addr} {cap : Nat} {l : List Blk} (h : OwnE w base p cap l) (hb : Below w.heap.size w w') : OwnE w' base p cap l := by
  refine ⟨⟨h.own.1, ?_⟩, h.ok⟩
  rcases h.own.2 with h2 | ⟨g, cap', cur, hv, hg, hh, r⟩
  · exact .inl h2
  · exact .inr ⟨g, cap', cur, hv, hg, by rw [hb.block g (Array.getElem?_eq_some_iff.1 hh).1]; exact hh, r⟩
theorem OwnE.only {w w' : World} {base B : Nat} {p : Option Addr} {cap : Nat} {l : List Blk} (h : OwnE w base p cap l) (ho : Only B w w') (hB : B < base) : OwnE w' base p cap l := by
  refine ⟨⟨h.own.1, ?_⟩, h.ok⟩
  rcases h.own.2 with h2 | ⟨g, cap', cur, hv, hg, hh, r⟩
  · exact .inl h2
  · exact .inr ⟨g, cap', cur, hv, hg, by rw [ho.block g (Array.getElem?_eq_some_iff.1 hh).1 (by omega)]; exact hh, r⟩
/-! ### Written out, and appended. -/
theorem z_ent : Mem.Zero Tryd.prog 54 (bcs zb) := by unfold Mem.Zero; kernel_rfl
theorem sz_ent {b : Blk} (h : b.Ok) : Sized Tryd.prog 54 (bcs b).length := by rw [bcs_len h]; exact ⟨.struct (Tryd.prog.fieldsOf 54), by kernel_rfl, rfl, by kernel_rfl⟩
theorem zb_ok : zb.Ok := ⟨(by decide : 0 < 4294967296), (by decide : 0 < 4294967296), zh_ok, zh_ok, zh_ok⟩
theorem fitB {b : Blk} (k : b.Ok) : 0 + (bcs b).length ≤ (bcs zb).length := by rw [bcs_len k, bcs_len zb_ok]; omega
theorem allB {b : Blk} (k : b.Ok) : lay (bcs zb) 0 (bcs b) = bcs b := lay_all _ _ (by rw [bcs_len k, bcs_len zb_ok])
theorem info_ent : (Tryd.prog.info? 54).map (fun i => (i.zero, i.size, i.bytes)) = some (some (.agg (bcs zb).toArray), 98, 104) := by kernel_rfl
theorem und_ents : Tryd.prog.underlying 46 = some (.slice 54) := by kernel_rfl
theorem zeros_ent : (Array.range (1 * 98)).map (fun k => (bcs zb).toArray[k % (bcs zb).toArray.size]!) = (bcs zb).toArray := by kernel_rfl
set_option maxRecDepth 100000 in
theorem bs_ent {b : Blk} (k : b.Ok) (w : World) : (Instr.buildSlice 46 1 #[(0, .agg (bcs b).toArray)]).run Tryd.prog w = .ok (.slice (some ⟨w.heap.size, 0, none⟩) 1 1) (w.alloc (.cells (bcs b).toArray 54)) := by
  obtain ⟨i, hi, hz, hs, _⟩ := info_parts info_ent
  have hsz : (sizeOf 54).run Tryd.prog w = .ok 98 w := by rw [run_sizeOf w hi, show Tryd.prog.cellsOf 54 = 98 by kernel_rfl]
  have hf : Instr.fill (fun i => some (i * 98, 98)) (bcs zb).toArray [(0, .agg (bcs b).toArray)] = some (bcs b).toArray := by
    rw [fill_step _ (bcs zb) 0 0 98 _ (bcs b) [] rfl rfl (bcs_len k) (by rw [bcs_len zb_ok]; omega), fill_done, allB k]
  have hzv : (zeroValue 54).run Tryd.prog w = .ok (.agg (bcs zb).toArray) w := by
    simp [zeroValue, typeInfo, hi, hz]
  unfold Instr.buildSlice
  simp only [Sem.run_bind, run_underlying und_ents, Result.andThen_ok, hsz, show ¬ (1 * 98 > 2 ^ 24) by decide, show ¬ (1 * 98 = 0) by decide, if_false, Sem.run_pure, hzv, Value.cells, zeros_ent, hf]
  simp [newRow]
section
variable {ops : Array Oper} {rest : List Oper} {o : Oper} {a : Act} {w : World} {Q : Exit → Act → World → Prop}
/-- '[]block{x}'. -/
theorem arm_oneE (hgd : o.guard = none) (parts : Array (Nat × Operand)) (ho : o.op = .buildSlice 46 1 parts) (x : Blk) (k : x.Ok) (hpv : (parts.map fun (i, y) => (i, a.eval y)) = #[(0, .agg (bcs x).toArray)])
    (h : ∀ b w2, Hid (b = w.heap.size) → Row w2 b 54 (bcs x) → New w w2 → wpList Tryd.prog ops Q rest (a.put o.dst (.slice (some ⟨b, 0, none⟩) 1 1)) w2) : wpList Tryd.prog ops Q (o :: rest) a w := by
  refine wpList_plain hgd fun K hK => ?_
  unfold Oper.wp execOp
  simp only [ho, hpv, Sem.run_bind, bs_ent k, Result.andThen_ok, Sem.run_pure]
  exact hK _ _ (h _ _ rfl (heap_alloc_new _ _) (new_alloc _ _))
/-- 'append(l, x)'. -/
theorem arm_appendE (hgd : o.guard = none) (s x : Operand) (ho : o.op = .call { callee := .builtin .append, args := #[s, x], argTypes := #[46, 46] }) (base : Nat) (p : Option Addr) (n cap : Nat) (l : List Blk) (hn : n = l.length)
    (hs : a.eval s = .slice p n cap) (hown : OwnE w base p cap l) (b : Nat) (y : Blk) (ky : y.Ok) (hx : a.eval x = .slice (some ⟨b, 0, none⟩) 1 1) (hr : Row w b 54 (bcs y)) (hz : l.length ≤ 1000) (hb : base ≤ w.heap.size)
    (h : ∀ p' cap' w', OwnE w' base p' cap' (l ++ [y]) → Below base w w' → Hid (∀ (c : Nat) (t : TypeId) (cs : List Value), t ≠ 54 → Row w c t cs → Row w' c t cs) → wpList Tryd.prog ops Q rest (a.put o.dst (.slice p' (l.length + 1) cap')) w') : wpList Tryd.prog ops Q (o :: rest) a w := by
  subst hn
  obtain ⟨i0, hi, hz0, hz1, hz2⟩ := info_parts info_ent
  refine wpList_append_own w hgd s x 46 ho base 54 i0 (.agg (bcs zb).toArray) 98 104 und_ents hi hz0 hz1 hz2 (by rw [show (Value.agg (bcs zb).toArray).cells = (bcs zb).toArray from rfl, List.size_toArray, bcs_len zb_ok]) (by decide) _ _ _ hs hown.own ⟨b, 0, none⟩ 1 1 (bcs y) hx (by rw [bcs_len ky]) (fun j u hj => by rw [Addr.add_mid]; have := (Has.refl (bcs y)).range hr j u hj; rwa [Nat.zero_add] at this ⊢) (bcs_one _) (by unfold maxLen; omega) (by omega) hb ?_
  intro v' w' hown' hgrow _
  rw [show ecs l ++ bcs y = ecs (l ++ [y]) by rw [ecs_append, ecs_one], show l.length + 1 = (l ++ [y]).length by simp] at hown'
  obtain ⟨p', cap', hv, hO⟩ := OwnE.of_slice hown' (hown.ok.snoc ky)
  rw [hv, show (l ++ [y]).length = l.length + 1 by simp]
  refine h p' cap' w' hO ⟨hgrow.os, hgrow.tape, hgrow.output, hgrow.size, fun k hk => hgrow.block k (by omega) (fun e => ?_)⟩ (Lib.hid fun c t cs ht hrow => hrow.of_block (hgrow.block c hrow.lt (fun e => ?_)))
  · rcases hown.own.2 with ⟨hv0, _⟩ | ⟨g, cap0, cur, hv0, hg, _⟩
    · rw [hv0] at e; cases e
    · rw [hv0] at e
      have : k = g := Option.some.inj e
      omega
  · rcases hown.own.2 with ⟨hv0, _⟩ | ⟨g, cap0, cur, hv0, hg, hh, _⟩
    · rw [hv0] at e; cases e
    · rw [hv0] at e
      have hcg : c = g := Option.some.inj e
      subst hcg
      have h2 := Option.some.inj ((show w.heap[c]? = _ from hrow).symm.trans hh)
      exact ht (Obj.cells.inj h2).2.1
end
end Go.Proofs.YtijpgncecfgfdaaDoor.Ep
