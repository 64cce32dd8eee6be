/-
  What lies in some blocks, and what a call leaves that changes no others: footprints. Over whatever program.
-/
import Derived.Test.YtbpghogdjpobnaaMemAll
import Derived.Test.YtbpghogdjpobnaaKeyMap
import Derived.Test.YtbpghogdjpobnaaSlisAll
namespace Go.Proofs.Ytbpghogdjpobnaa.Mem
open Go.RowKit
set_option linter.unusedVariables false
set_option linter.unusedSimpArgs false

/-- The walk stays here, so that facts can be handed on. -/
def FPause (p : Prop) : Prop := p
theorem fpause {p : Prop} (h : FPause p) : p := h
theorem fgo {p : Prop} (h : p) : FPause p := h
/-- Of the old blocks none but these has changed. -/
structure Chg (F : Nat → Prop) (w w' : World) : Prop where
  os : w'.os = w.os
  tape : w'.tape = w.tape
  output : w'.output = w.output
  size : w.heap.size ≤ w'.heap.size
  block : ∀ k, k < w.heap.size → ¬ F k → w'.heap[k]? = w.heap[k]?
/-- What belongs to it now did so ahead, or is new. -/
def Grew (F F' : Nat → Prop) (n : Nat) : Prop := ∀ k, F' k → F k ∨ n ≤ k
/-- All of it is there. -/
def Lies (F : Nat → Prop) (w : World) : Prop := ∀ k, F k → k < w.heap.size
/-- All of it has come since. -/
def From (F : Nat → Prop) (n : Nat) : Prop := ∀ k, F k → n ≤ k
def Sep (F G : Nat → Prop) : Prop := ∀ k, F k → ¬ G k
section
variable {F F' G : Nat → Prop} {w w1 w2 w' : World} {n : Nat}
theorem Chg.of_below (F : Nat → Prop) (h : Below w.heap.size w w') : Chg F w w' := ⟨h.os, h.tape, h.output, h.size, fun k hk _ => h.block k hk⟩
theorem Chg.refl (F : Nat → Prop) (w : World) : Chg F w w := ⟨rfl, rfl, rfl, Nat.le_refl _, fun _ _ _ => rfl⟩
theorem Chg.of_only {b : Nat} (h : Only b w w') (hb : F b) : Chg F w w' := ⟨h.os, h.tape, h.output, h.size, fun k hk hn => h.block k hk (fun e => hn (e ▸ hb))⟩
/-- Two steps; the second one's footprint has grown. -/
theorem Chg.trans (h : Chg F w w1) (g : Chg F' w1 w2) (hg : Grew F F' w.heap.size) : Chg F w w2 :=
  ⟨g.os.trans h.os, g.tape.trans h.tape, g.output.trans h.output, Nat.le_trans h.size g.size, fun k hk hn =>
    (g.block k (Nat.lt_of_lt_of_le hk h.size) (fun e => (hg k e).elim hn (fun q => by omega))).trans (h.block k hk hn)⟩
theorem Chg.step (h : Chg F w w1) (g : Chg F w1 w2) : Chg F w w2 := h.trans g (fun k hk => .inl hk)
theorem Chg.more (h : Chg F w w') (hg : ∀ k, F k → G k) : Chg G w w' := ⟨h.os, h.tape, h.output, h.size, fun k hk hn => h.block k hk (fun e => hn (hg k e))⟩
theorem Chg.below (h : Chg F w w') (hF : From F n) (hn : n ≤ w.heap.size) : Below n w w' := ⟨h.os, h.tape, h.output, h.size, fun k hk => h.block k (by omega) (fun e => by have := hF k e; omega)⟩
/-- A block that has come since is changed. -/
theorem Chg.new {c : Nat} (h : Chg F w w1) (g : Only c w1 w2) (hc : w.heap.size ≤ c) : Chg F w w2 :=
  ⟨g.os.trans h.os, g.tape.trans h.tape, g.output.trans h.output, Nat.le_trans h.size g.size, fun k hk hn => (g.block k (Nat.lt_of_lt_of_le hk h.size) (by omega)).trans (h.block k hk hn)⟩
theorem Chg.fresh (h : Chg F w w1) (g : Chg G w1 w2) (hG : From G w.heap.size) : Chg F w w2 :=
  ⟨g.os.trans h.os, g.tape.trans h.tape, g.output.trans h.output, Nat.le_trans h.size g.size, fun k hk hn => (g.block k (Nat.lt_of_lt_of_le hk h.size) (fun q => by have := hG k q; omega)).trans (h.block k hk hn)⟩
theorem Chg.old (h : Chg F w w1) (g : Below w1.heap.size w1 w2) : Chg F w w2 := h.step (Chg.of_below F g)
theorem Chg.only {c : Nat} (h : Chg F w w1) (g : Only c w1 w2) (hc : F c) : Chg F w w2 := h.step (Chg.of_only g hc)
theorem Grew.refl (F : Nat → Prop) (n : Nat) : Grew F F n := fun k h => .inl h
theorem Grew.trans {m : Nat} (h : Grew F F' n) (g : Grew F' G m) (hm : n ≤ m) : Grew F G n := fun k hk => (g k hk).elim (h k) (fun q => .inr (by omega))
theorem Grew.less (h : Grew F F' n) {m : Nat} (hm : m ≤ n) : Grew F F' m := fun k hk => (h k hk).imp id (fun q => by omega)
theorem Grew.from (h : Grew F F' n) {m : Nat} (g : From F m) (hm : m ≤ n) : From F' m := fun k hk => (h k hk).elim (g k) (fun q => by omega)
theorem Lies.mono (h : Lies F w) (hs : w.heap.size ≤ w'.heap.size) : Lies F w' := fun k hk => Nat.lt_of_lt_of_le (h k hk) hs
theorem Sep.symm (h : Sep F G) : Sep G F := fun k hg hf => h k hf hg
theorem Sep.grew (h : Sep F G) (g : Grew F F' n) (hl : ∀ k, G k → k < n) : Sep F' G := fun k hk hg => (g k hk).elim (fun q => h k q hg) (fun q => by have := hl k hg; omega)
theorem Row.chg {b : Nat} {t : TypeId} {cs : List Value} (h : Row w b t cs) (c : Chg F w w') (hn : ¬ F b) : Row w' b t cs := h.of_block (c.block b h.lt hn)
theorem notF_grew {b : Nat} (h : ¬ F b) (g : Grew F F' n) (hb : b < n) : ¬ F' b := fun e => (g b e).elim h (fun q => by omega)
/-- A row of another type. -/
theorem Row.ne_type {a b : Nat} {t u : TypeId} {cs ds : List Value} (h : Row w a t cs) (g : Row w b u ds) (hn : t ≠ u) : a ≠ b := by
  rintro rfl
  exact hn (Obj.cells.inj (Option.some.inj ((show w.heap[a]? = _ from h).symm.trans g))).2.1
end
end Go.Proofs.Ytbpghogdjpobnaa.Mem
namespace Go.Proofs.Ytbpghogdjpobnaa.Km
open Go.Proofs.Ytbpghogdjpobnaa.Mem
variable {α β : Type} [DecidableEq α] {F : Nat → Prop} {w w' : World} {b : Nat} {V : α → Value} {U : β → Value} {ok : α → Prop} {l : List (α × β)}
theorem KMap.chg (h : KMap w b V U ok l) (c : Chg F w w') (hn : ¬ F b) : KMap w' b V U ok l := h.of_block (c.block b h.lt hn)
end Go.Proofs.Ytbpghogdjpobnaa.Km
namespace Go.Proofs.Ytbpghogdjpobnaa.Sl
open Go.RowKit Go.Proofs.Ytbpghogdjpobnaa.Mem
set_option linter.unusedVariables false
set_option linter.unusedSimpArgs false
section
variable {α : Type} {K : Kind α} {F : Nat → Prop} {w w' : World} {base : Nat} {p : Option Addr} {cap : Nat} {l : List α}
theorem Own.chg (h : Own K w base p cap l) (c : Chg F w w') (hn : ∀ g, bk p = some g → ¬ F g) : Own K w' base p cap l := h.block fun g e hg => c.block g hg (hn g e)
theorem At.chg (h : At K w p l) (c : Chg F w w') (hn : ∀ g, bk p = some g → ¬ F g) : At K w' p l := h.block c.size fun g o e hg => c.block g hg (hn g (by rw [e]; rfl))
theorem Own.ne_map {α' β' : Type} [DecidableEq α'] {m : Nat} {V : α' → Value} {U : β' → Value} {ok : α' → Prop} {lm : List (α' × β')} (h : Own K w base p cap l) (hm : Km.KMap w m V U ok lm) : bk p ≠ some m := fun e => by
  obtain ⟨es, clock, hb, _⟩ := hm.ex
  rcases h.own.2 with ⟨hv, hl⟩ | ⟨g', cap', cur, hv, hg, hh, _⟩
  · have : bk p = none := by rw [← bk_own p l.length cap, hv]; rfl
    rw [this] at e; cases e
  · have hp : bk p = some g' := by rw [← bk_own p l.length cap, hv]; rfl
    obtain rfl : g' = m := Option.some.inj (hp.symm.trans e)
    rw [hb] at hh
    cases hh
theorem chg_app {n : Nat} (h : Below n w w') (hk : Hid (∀ g, g < w.heap.size → bk p ≠ some g → w'.heap[g]? = w.heap[g]?)) : Chg (fun k => bk p = some k) w w' := ⟨h.os, h.tape, h.output, h.size, fun k h1 h2 => hk.out k h1 h2⟩
theorem Own.low {m : Nat} (h : Own K w base p cap l) (hm : m ≤ base) : Own K w m p cap l := by
  refine ⟨⟨h.own.1, ?_⟩, h.ok⟩
  rcases h.own.2 with h2 | ⟨g, cap', cur, hv, hg, r⟩
  · exact .inl h2
  · exact .inr ⟨g, cap', cur, hv, by omega, r⟩
end
section
variable {α : Type} {K : Kind α} {P : Program}
theorem all_take_drop (l : List α) (i : Nat) : K.all l = K.all (l.take i) ++ K.all (l.drop i) := by rw [← all_append, List.take_append_drop]
theorem erase_all (F : K.Fit P) {l : List α} (ho : K.AllOk l) (r : List Value) {i : Nat} (hi : i < l.length) :
    lay (lay (K.all l ++ r) (i * K.n) (K.all (l.drop (i + 1)))) ((l.length - 1) * K.n) (K.cs K.z) = K.all (l.eraseIdx i) ++ (K.cs K.z ++ r) := by
  have h1 : (K.all (l.take i)).length = i * K.n := by rw [all_len F _ (AllOk.take ho i), List.length_take, Nat.min_eq_left (by omega)]
  have h2 : (K.all (l.drop (i + 1))).length = (l.length - (i + 1)) * K.n := by rw [all_len F _ (AllOk.drop ho (i + 1)), List.length_drop]
  have hz : (K.cs K.z).length = K.n := F.len _ F.zok
  have hx : K.all (l.drop i) = K.cs l[i] ++ K.all (l.drop (i + 1)) := by rw [List.drop_eq_getElem_cons hi, all_cons]
  have hxl : (K.cs l[i]).length = K.n := F.len _ (ho _ (List.getElem_mem hi))
  have e1 : lay (K.all l ++ r) (i * K.n) (K.all (l.drop (i + 1))) = K.all (l.take i) ++ (K.all (l.drop (i + 1)) ++ ((K.cs l[i] ++ K.all (l.drop (i + 1)) ++ r).drop ((l.length - (i + 1)) * K.n))) := by
    unfold lay
    rw [all_take_drop l i, hx, h2, List.append_assoc (K.all (l.take i)), ← h1, List.take_left, List.drop_length_add_append, List.append_assoc]
  have e2 : ((K.cs l[i] ++ K.all (l.drop (i + 1)) ++ r).drop ((l.length - (i + 1)) * K.n)).length = K.n + r.length := by
    rw [List.length_drop, List.length_append, List.length_append, hxl, h2]; omega
  have e3 : (l.length - 1) * K.n = i * K.n + (l.length - (i + 1)) * K.n := by rw [← Nat.add_mul]; congr 1; omega
  have e4 : K.all (l.eraseIdx i) = K.all (l.take i) ++ K.all (l.drop (i + 1)) := by rw [List.eraseIdx_eq_take_drop_succ, all_append]
  have e5 : ((K.cs l[i] ++ K.all (l.drop (i + 1)) ++ r).drop ((l.length - (i + 1)) * K.n)).drop K.n = r := by
    rw [List.drop_drop, List.drop_append, List.drop_eq_nil_of_le (by rw [List.length_append, hxl, h2]; omega), List.length_append, hxl, h2, show (l.length - (i + 1)) * K.n + K.n - (K.n + (l.length - (i + 1)) * K.n) = 0 by omega]
    rfl
  rw [e1, e3, e4]
  generalize (K.cs l[i] ++ K.all (l.drop (i + 1)) ++ r).drop ((l.length - (i + 1)) * K.n) = T at e2 e5 ⊢
  unfold lay
  rw [← List.append_assoc, ← h1, ← h2, ← List.length_append, List.take_left, List.drop_length_add_append, hz, e5]
  simp only [List.append_assoc]
theorem eraseIdx_ok {l : List α} (h : K.AllOk l) (i : Nat) : K.AllOk (l.eraseIdx i) := fun x hx => h x (List.mem_of_mem_eraseIdx hx)
theorem Own.erase {w : World} {base : Nat} {p : Option Addr} {cap : Nat} {l : List α} (F : K.Fit P) (h : Own K w base p cap l) {i : Nat} (hi : i < l.length) :
    ∃ g cs, p = some ⟨g, 0, none⟩ ∧ base ≤ g ∧ l.length ≤ cap ∧ Row w g K.t cs ∧ i * K.n + (l.length - (i + 1)) * K.n ≤ cs.length ∧ (l.length - 1) * K.n + K.n ≤ cs.length ∧
      (∀ w', Row w' g K.t (lay (lay cs (i * K.n) (K.all (l.drop (i + 1)))) ((l.length - 1) * K.n) (K.cs K.z)) → Own K w' base p cap (l.eraseIdx i)) := by
  rcases h.own.2 with ⟨hv, hl⟩ | ⟨g, cap', cur, hv, hg, hh, hc, hm, hs, ht⟩
  · omega
  · obtain ⟨rfl, -, rfl⟩ : p = some ⟨g, 0, none⟩ ∧ l.length = l.length ∧ cap = cap' := by simpa using hv
    have hal := all_len F l h.ok
    have hz : (K.cs K.z).length = K.n := F.len _ F.zok
    have hmul : l.length * K.n ≤ cap * K.n := Nat.mul_le_mul_right K.n hc
    have e1 : (l.length - 1) * K.n + K.n = l.length * K.n := by rw [← Nat.succ_mul]; congr 1; omega
    have e2 : i * K.n + (l.length - (i + 1)) * K.n + K.n = l.length * K.n := by rw [← Nat.add_mul, ← Nat.succ_mul]; congr 1; omega
    have hsz : cur.toList.length = cap * K.n := by rw [Array.length_toList]; exact hs
    have hcs : cur.toList = K.all l ++ cur.toList.drop (l.length * K.n) := by rw [← ht, List.take_append_drop]
    refine ⟨g, cur.toList, rfl, hg, hc, by rw [← Array.toArray_toList (xs := cur)] at hh; exact hh, by omega, by omega, fun w' hw => ?_⟩
    have hlay := erase_all F h.ok (cur.toList.drop (l.length * K.n)) hi
    rw [← hcs] at hlay
    have hel : (l.eraseIdx i).length = l.length - 1 := by rw [List.length_eraseIdx, if_pos hi]
    have hal2 := all_len F (l.eraseIdx i) (eraseIdx_ok h.ok i)
    refine ⟨⟨hal2, .inr ⟨g, cap, _, rfl, hg, hw, by omega, hm, ?_, ?_⟩⟩, eraseIdx_ok h.ok i⟩
    · rw [List.size_toArray, hlay, List.length_append, List.length_append, hal2, hz, List.length_drop, hsz, hel]; omega
    · show (lay (lay cur.toList (i * K.n) (K.all (l.drop (i + 1)))) ((l.length - 1) * K.n) (K.cs K.z)).take ((l.eraseIdx i).length * K.n) = _
      rw [hlay, ← hal2, List.take_left]
variable {o : Oper} {a : Act} {w : World}
variable {ops : Array Oper} {rest : List Oper} {Q : Exit → Act → World → Prop}
/-- 's[i:j:m]', whose value isn't looked at. -/
theorem arm_three (hgd : o.guard = none) (F : K.Fit P) (x lo hi mx : Operand) (ho : o.op = .slice K.ts x (some lo) (some hi) (some mx)) (g len cap : Nat) (hx : a.eval x = .slice (some ⟨g, 0, none⟩) len cap) (k1 k2 k3 : IntKind) (i j m : Nat) (hlo : a.eval lo = .int k1 (i : Int)) (hhi : a.eval hi = .int k2 (j : Int)) (hmx : a.eval mx = .int k3 (m : Int)) (hij : i ≤ j) (hjm : j ≤ m) (hmc : m ≤ cap)
    (h : ∀ v, wpList P ops Q rest (a.put o.dst v) w) : wpList P ops Q (o :: rest) a w := by
  refine wpList_plain hgd fun X hX => ?_
  obtain ⟨ie, hq, _, hs, _⟩ := F.parts
  have h1 : (m : Int) ≤ (cap : Int) := by omega
  have h2 : (j : Int) ≤ (m : Int) := by omega
  have h3 : (i : Int) ≤ (j : Int) := by omega
  have hr : ∃ v, (Instr.sliceAt K.ts (.slice (some ⟨g, 0, none⟩) len cap) (some (.int k1 (i : Int))) (some (.int k2 (j : Int))) (some (.int k3 (m : Int)))).run P w = .ok v w := by
    simp [Instr.sliceAt, Instr.slice, run_underlying F.und, Instr.sliceBounds, Instr.sliceBound, asIntOf, h1, h2, h3, hij, hjm, hmc, sizeOf, typeInfo, hq, hs]
  obtain ⟨v, hr⟩ := hr
  unfold Oper.wp execOp
  simp only [ho, hx, Option.map_some, hlo, hhi, hmx, Sem.run_bind, hr, Result.andThen_ok, Sem.run_pure]
  exact hX _ _ (h v)
/-- 's[i:]', where it begins. -/
theorem run_op_tailS (F : K.Fit P) (x lo : Operand) (ho : o.op = .slice K.ts x (some lo) none none) (p : Option Addr) (len cap : Nat) (hx : a.eval x = .slice p len cap) (k1 : IntKind) (i : Int) (hlo : a.eval lo = .int k1 i) (m : Nat) (hm : i = (m : Int)) (hml : m ≤ len) (q : Option Addr) (hq : onN p m K.n cap = q) (w : World) : (execOp a.eval o).run P w = .ok (.value (.slice q (len - m) (cap - m))) w := by
  subst hq
  exact run_op_tail F x lo ho p len cap hx k1 i hlo m hm hml w
theorem onN_some (g m n cap : Nat) : ∃ ad, onN (some ⟨g, 0, none⟩) m n cap = some ad := by unfold onN; split <;> exact ⟨_, rfl⟩
/-- 's[i:i+1]'. -/
theorem run_op_part (F : K.Fit P) (x lo hi : Operand) (ho : o.op = .slice K.ts x (some lo) (some hi) none) (g len cap : Nat) (hx : a.eval x = .slice (some ⟨g, 0, none⟩) len cap) (k1 k2 : IntKind) (i j : Nat) (hlo : a.eval lo = .int k1 (i : Int)) (hhi : a.eval hi = .int k2 (j : Int)) (hij : j = i + 1) (hjc : j ≤ cap) (w : World) :
    (execOp a.eval o).run P w = .ok (.value (.slice (some ⟨g, i * K.n, none⟩) 1 (cap - i))) w := by
  obtain ⟨ie, hq, _, hs, _⟩ := F.parts
  have h1 : (j : Int) ≤ (cap : Int) := by omega
  have h2 : (i : Int) ≤ (j : Int) := by omega
  have h5 : i ≤ j := by omega
  have h3 : ¬ cap = i := by omega
  have h4 : (⟨g, 0, none⟩ : Addr).add (i * K.n) = ⟨g, i * K.n, none⟩ := by rw [Addr.add_mid, Nat.zero_add]
  have hr : (Instr.sliceAt K.ts (.slice (some ⟨g, 0, none⟩) len cap) (some (.int k1 (i : Int))) (some (.int k2 (j : Int))) none).run P w = .ok (.slice (some ⟨g, i * K.n, none⟩) 1 (cap - i)) w := by
    rw [show (1 : Nat) = j - i by omega]
    simp [Instr.sliceAt, Instr.slice, run_underlying F.und, Instr.sliceBounds, Instr.sliceBound, asIntOf, h1, h2, h5, hjc,  sizeOf, typeInfo, hq, hs, h3, h4]
  unfold execOp
  simp only [ho, hx, Option.map_some, Option.map_none, hlo, hhi, Sem.run_bind, hr, Result.andThen_ok, Sem.run_pure]
/-- 'append(s, x...)' where there is room. -/
theorem run_op_appendR (F : K.Fit P) (s x : Operand) (ho : o.op = .call { callee := .builtin .append, args := #[s, x], argTypes := #[K.ts, K.ts] }) (g n cap : Nat) (cur : List Value) (hr : Row w g K.t cur)
    (hs : a.eval s = .slice (some ⟨g, 0, none⟩) n cap) (ad : Addr) (m c : Nat) (ys : List α) (hx : a.eval x = .slice (some ad) m c) (hm : m = ys.length) (hy : At K w (some ad) ys) (hroom : n + m ≤ cap) (hfit : n * K.n + ys.length * K.n ≤ cur.length) (n' : Nat) (hn' : n + m = n') :
    (execOp a.eval o).run P w = .ok (.value (.slice (some ⟨g, 0, none⟩) n' cap)) (w.setRow g (lay cur (n * K.n) (K.all ys)).toArray) := by
  subst hm hn'
  obtain ⟨i0, hi, hz0, hz1, hz2⟩ := F.parts
  have hnews : ∀ j u, (K.all ys)[j]? = some u → w.cell? (ad.add j) = some u := fun j u hj => by
    obtain ⟨k, y, j', h1, h2, rfl⟩ := all_cell F ys hy.ok j u hj
    obtain ⟨g', o', e, _, hr⟩ := hy.at_ k y h1
    obtain rfl : ad = ⟨g', o', none⟩ := by simpa using e
    rw [Addr.add_mid, ← Nat.add_assoc]
    exact hr j' u h2
  have hq := run_append_room (P := P) w K.ts o.type K.t i0 F.und hi g n cap cur.toArray hr ad ys.length c (K.all ys) (by rw [hz1]; exact all_len F ys hy.ok) hnews (all_ones F ys) hroom (by rw [hz1, all_len F ys hy.ok, List.size_toArray]; exact hfit)
  unfold execOp
  simp only [ho, resolve, invoke, builtin, Sem.run_bind, Sem.run_pure, Result.andThen_ok, List.map_toArray, List.map_cons, List.map_nil, hs, hx, hq]
  simp only [lay, hz1, List.append_assoc]
/-- 'clear(s)' of one. -/
theorem run_op_clear1 (F : K.Fit P) (x : Operand) (ho : o.op = .call { callee := .builtin .clear, args := #[x], argTypes := #[K.ts] }) (g off c : Nat) (cs : List Value) (hr : Row w g K.t cs) (hx : a.eval x = .slice (some ⟨g, off, none⟩) 1 c) (hf : off + K.n ≤ cs.length) :
    (execOp a.eval o).run P w = .ok (.value (.tuple #[])) (w.setRow g (lay cs off (K.cs K.z)).toArray) := by
  obtain ⟨i, hi, hz, hs, _⟩ := F.parts
  have hzl : (K.cs K.z).length = K.n := F.len _ F.zok
  have hzv : (zeroValue K.t).run P w = .ok (.agg (K.cs K.z).toArray) w := by simp [zeroValue, typeInfo, hi, hz]
  have hz1 : (Builtin.zeroCells (Value.agg (K.cs K.z).toArray).cells 1).toList = K.cs K.z := by
    show (Builtin.zeroCells (K.cs K.z).toArray 1).toList = K.cs K.z
    have hp := F.pos
    unfold Builtin.zeroCells
    apply List.ext_getElem
    · simp
    · intro j h1 h2
      simp only [Array.toList_map, Array.toList_range, List.getElem_map, List.getElem_range, List.size_toArray]
      have hj : j < (K.cs K.z).length := h2
      rw [Nat.mod_eq_of_lt hj]
      simp [hj]
  have hst := run_storeCells_at P g off K.t (K.cs K.z) 0 cs.toArray w hr (by simp [hzl]; omega) (F.one _)
  simp only [Nat.add_zero] at hst
  unfold execOp
  simp only [ho, resolve, invoke, builtin, Sem.run_bind, Sem.run_pure, Result.andThen_ok, List.map_toArray, List.map_cons, List.map_nil, hx]
  simp [Builtin.clear_, run_underlying F.und, hzv, hz1, hst, lay, Result.andThen]
theorem arm_clear1 (hgd : o.guard = none) (F : K.Fit P) (x : Operand) (ho : o.op = .call { callee := .builtin .clear, args := #[x], argTypes := #[K.ts] }) (g off c : Nat) (cs : List Value) (hr : Row w g K.t cs) (hx : a.eval x = .slice (some ⟨g, off, none⟩) 1 c) (hf : off + K.n ≤ cs.length)
    (h : ∀ w2, Row w2 g K.t (lay cs off (K.cs K.z)) → Only g w w2 → Hid (w2.heap.size = w.heap.size) → wpList P ops Q rest (a.put o.dst (.tuple #[])) w2) : wpList P ops Q (o :: rest) a w := by
  refine wpList_plain hgd fun X hX => ?_
  unfold Oper.wp
  rw [run_op_clear1 F x ho g off c cs hr hx hf]
  exact hX _ _ (h _ (row_setRow hr _) (Only.setRow _ _ _) (by simp [Hid]))
theorem run_eqNil {t e : TypeId} (hu : P.underlying t = some (.slice e)) (p : Option Addr) (n c d : Nat) (w : World) : (Op.equalIn (d + 1) t (.slice p n c) (.slice none 0 0)).run P w = .ok p.isNone w := by
  cases p <;> simp [Op.equalIn, run_underlying hu]
/-- 's == nil'. -/
theorem run_op_eqlNil (t t' e : TypeId) (hu : P.underlying t = some (.slice e)) (x y : Operand) (ho : o.op = .binOp .eql t x y t') (p : Option Addr) (n c : Nat) (hx : a.eval x = .slice p n c) (hy : a.eval y = .slice none 0 0) (w : World) :
    (execOp a.eval o).run P w = .ok (.value (.bool p.isNone)) w := by
  have h := run_eqNil hu p n c 9999 w
  have hb : (binOp .eql t (.slice p n c) (.slice none 0 0)).run P w = .ok (.bool p.isNone) w := by
    have e : (Op.equal t (.slice p n c) (.slice none 0 0)).run P w = .ok p.isNone w := h
    simp [binOp, e, Result.andThen]
  unfold execOp
  simp [ho, hx, hy, eqGuard, hb]
/-- '[]T{}'. -/
theorem own_empty (F : K.Fit P) (w : World) : Own K (w.alloc (.cells #[] K.t)) w.heap.size (some ⟨w.heap.size, 0, none⟩) 0 [] := Own.row F allOk_nil (Nat.le_refl _) (Nat.zero_le _) (heap_alloc_new _ _)
/-- A call whose answer is dropped, in a region that draws. -/
theorem o_none {i : Nat} {X : Act → World → Prop} {w' : World} (v : Value) (hi : ops[i]? = some o) (hd : o.dst = none) (hg : Region.wanted o (yielded ops a.tmps) = true) (hr : (execOp a.eval o).run P w = .ok (.value v) w') (h : X a w') : wpOp P ops Q i X a w := by
  unfold wpOp
  rw [hi]
  simp only [hg, if_true]
  exact .inl (by unfold Oper.wp; rw [hr]; show X (a.put o.dst v) w'; rw [hd]; exact h)
/-- 'delete(m, k)' in a region that draws. -/
theorem o_deleteK {α' β' : Type} [DecidableEq α'] {b : Nat} {V : α' → Value} {U : β' → Value} {ok : α' → Prop} {lm : List (α' × β')} {kt : TypeId} {i : Nat} {X : Act → World → Prop} (hi : ops[i]? = some o) (hd : o.dst = none) (hg : Region.wanted o (yielded ops a.tmps) = true)
    (t : TypeId) (x y : Operand) (ho : o.op = .call { callee := .builtin .delete, args := #[x, y], argTypes := #[t, kt] }) (hx : a.eval x = .map (some b)) (k : α') (hk : ok k) (hy : a.eval y = V k) (h : Km.KMap w b V U ok lm) (K' : Km.Keys P kt V ok) {e : TypeId} (ht : P.underlying t = some (.map kt e))
    (hX : ∀ w', Km.KMap w' b V U ok (Km.delK lm k) → Only b w w' → X a w') : wpOp P ops Q i X a w := by
  obtain ⟨w', hr, h1, h2, h3⟩ := Km.run_op_deleteK t x y ho hx k hk hy h K' ht
  exact o_none _ hi hd hg hr (hX w' h1 h2)
end
end Go.Proofs.Ytbpghogdjpobnaa.Sl
