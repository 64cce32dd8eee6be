/-
  What lies in some blocks, and what a call leaves that changes no others: footprints. Over whatever program.
-/
import Derived.Test.YtnjmocobncncdaaDoorMemAll
import Derived.Test.YtnjmocobncncdaaDoorKeyMap
import Derived.Test.YtnjmocobncncdaaDoorSlisAll
namespace Go.Proofs.YtnjmocobncncdaaDoor.Mem
open Go.RowKit
set_option linter.unusedVariables false
set_option linter.unusedSimpArgs false

/-- The walk stays here, so that facts can be handed on. -/
def FPause (p : Prop) : Prop := p
theorem fpause {p : Prop} (h : FPause p) : p := h
theorem fgo {p : Prop} (h : p) : FPause p := h
/-- Of the old blocks none but these has changed. -/
structure Chg (F : Nat → Prop) (w w' : World) : Prop where
  os : w'.os = w.os
  tape : w'.tape = w.tape
  output : w'.output = w.output
  size : w.heap.size ≤ w'.heap.size
  block : ∀ k, k < w.heap.size → ¬ F k → w'.heap[k]? = w.heap[k]?
/-- What belongs to it now did so ahead, or is new. -/
def Grew (F F' : Nat → Prop) (n : Nat) : Prop := ∀ k, F' k → F k ∨ n ≤ k
/-- All of it is there. -/
def Lies (F : Nat → Prop) (w : World) : Prop := ∀ k, F k → k < w.heap.size
/-- All of it has come since. -/
def From (F : Nat → Prop) (n : Nat) : Prop := ∀ k, F k → n ≤ k
def Sep (F G : Nat → Prop) : Prop := ∀ k, F k → ¬ G k
section
variable {F F' G : Nat → Prop} {w w1 w2 w' : World} {n : Nat}
theorem Chg.of_below (F : Nat → Prop) (h : Below w.heap.size w w') : Chg F w w' := ⟨h.os, h.tape, h.output, h.size, fun k hk _ => h.block k hk⟩
theorem Chg.refl (F : Nat → Prop) (w : World) : Chg F w w := ⟨rfl, rfl, rfl, Nat.le_refl _, fun _ _ _ => rfl⟩
theorem Chg.of_only {b : Nat} (h : Only b w w') (hb : F b) : Chg F w w' := ⟨h.os, h.tape, h.output, h.size, fun k hk hn => h.block k hk (fun e => hn (e ▸ hb))⟩
/-- Two steps; the second one's footprint has grown. -/
theorem Chg.trans (h : Chg F w w1) (g : Chg F' w1 w2) (hg : Grew F F' w.heap.size) : Chg F w w2 :=
  ⟨g.os.trans h.os, g.tape.trans h.tape, g.output.trans h.output, Nat.le_trans h.size g.size, fun k hk hn =>
    (g.block k (Nat.lt_of_lt_of_le hk h.size) (fun e => (hg k e).elim hn (fun q => by omega))).trans (h.block k hk hn)⟩
theorem Chg.step (h : Chg F w w1) (g : Chg F w1 w2) : Chg F w w2 := h.trans g (fun k hk => .inl hk)
theorem Chg.more (h : Chg F w w') (hg : ∀ k, F k → G k) : Chg G w w' := ⟨h.os, h.tape, h.output, h.size, fun k hk hn => h.block k hk (fun e => hn (hg k e))⟩
theorem Chg.below (h : Chg F w w') (hF : From F n) (hn : n ≤ w.heap.size) : Below n w w' := ⟨h.os, h.tape, h.output, h.size, fun k hk => h.block k (by omega) (fun e => by have := hF k e; omega)⟩
/-- A block that has come since is changed. -/
theorem Chg.new {c : Nat} (h : Chg F w w1) (g : Only c w1 w2) (hc : w.heap.size ≤ c) : Chg F w w2 :=
  ⟨g.os.trans h.os, g.tape.trans h.tape, g.output.trans h.output, Nat.le_trans h.size g.size, fun k hk hn => (g.block k (Nat.lt_of_lt_of_le hk h.size) (by omega)).trans (h.block k hk hn)⟩
theorem Chg.fresh (h : Chg F w w1) (g : Chg G w1 w2) (hG : From G w.heap.size) : Chg F w w2 :=
  ⟨g.os.trans h.os, g.tape.trans h.tape, g.output.trans h.output, Nat.le_trans h.size g.size, fun k hk hn => (g.block k (Nat.lt_of_lt_of_le hk h.size) (fun q => by have := hG k q; omega)).trans (h.block k hk hn)⟩
theorem Chg.old (h : Chg F w w1) (g : Below w1.heap.size w1 w2) : Chg F w w2 := h.step (Chg.of_below F g)
theorem Chg.only {c : Nat} (h : Chg F w w1) (g : Only c w1 w2) (hc : F c) : Chg F w w2 := h.step (Chg.of_only g hc)
theorem Grew.refl (F : Nat → Prop) (n : Nat) : Grew F F n := fun k h => .inl h
theorem Grew.trans {m : Nat} (h : Grew F F' n) (g : Grew F' G m) (hm : n ≤ m) : Grew F G n := fun k hk => (g k hk).elim (h k) (fun q => .inr (by omega))
theorem Grew.less (h : Grew F F' n) {m : Nat} (hm : m ≤ n) : Grew F F' m := fun k hk => (h k hk).imp id (fun q => by omega)
theorem Grew.from (h : Grew F F' n) {m : Nat} (g : From F m) (hm : m ≤ n) : From F' m := fun k hk => (h k hk).elim (g k) (fun q => by omega)
theorem Lies.mono (h : Lies F w) (hs : w.heap.size ≤ w'.heap.size) : Lies F w' := fun k hk => Nat.lt_of_lt_of_le (h k hk) hs
theorem Sep.symm (h : Sep F G) : Sep G F := fun k hg hf => h k hf hg
theorem Sep.grew (h : Sep F G) (g : Grew F F' n) (hl : ∀ k, G k → k < n) : Sep F' G := fun k hk hg => (g k hk).elim (fun q => h k q hg) (fun q => by have := hl k hg; omega)
theorem Row.chg {b : Nat} {t : TypeId} {cs : List Value} (h : Row w b t cs) (c : Chg F w w') (hn : ¬ F b) : Row w' b t cs := h.of_block (c.block b h.lt hn)
theorem notF_grew {b : Nat} (h : ¬ F b) (g : Grew F F' n) (hb : b < n) : ¬ F' b := fun e => (g b e).elim h (fun q => by omega)
/-- A row of another type. -/
theorem Row.ne_type {a b : Nat} {t u : TypeId} {cs ds : List Value} (h : Row w a t cs) (g : Row w b u ds) (hn : t ≠ u) : a ≠ b := by
  rintro rfl
  exact hn (Obj.cells.inj (Option.some.inj ((show w.heap[a]? = _ from h).symm.trans g))).2.1
end
end Go.Proofs.YtnjmocobncncdaaDoor.Mem
namespace Go.Proofs.YtnjmocobncncdaaDoor.Km
open Go.Proofs.YtnjmocobncncdaaDoor.Mem
variable {α β : Type} [DecidableEq α] {F : Nat → Prop} {w w' : World} {b : Nat} {V : α → Value} {U : β → Value} {ok : α → Prop} {l : List (α × β)}
theorem KMap.chg (h : KMap w b V U ok l) (c : Chg F w w') (hn : ¬ F b) : KMap w' b V U ok l := h.of_block (c.block b h.lt hn)
end Go.Proofs.YtnjmocobncncdaaDoor.Km
namespace Go.Proofs.YtnjmocobncncdaaDoor.Sl
open Go.RowKit Go.Proofs.YtnjmocobncncdaaDoor.Mem
set_option linter.unusedVariables false
set_option linter.unusedSimpArgs false
section
variable {α : Type} {K : Kind α} {F : Nat → Prop} {w w' : World} {base : Nat} {p : Option Addr} {cap : Nat} {l : List α}
theorem Own.chg (h : Own K w base p cap l) (c : Chg F w w') (hn : ∀ g, bk p = some g → ¬ F g) : Own K w' base p cap l := h.block fun g e hg => c.block g hg (hn g e)
theorem At.chg (h : At K w p l) (c : Chg F w w') (hn : ∀ g, bk p = some g → ¬ F g) : At K w' p l := h.block c.size fun g o e hg => c.block g hg (hn g (by rw [e]; rfl))
theorem Own.low {m : Nat} (h : Own K w base p cap l) (hm : m ≤ base) : Own K w m p cap l := by
  refine ⟨⟨h.own.1, ?_⟩, h.ok⟩
  rcases h.own.2 with h2 | ⟨g, cap', cur, hv, hg, r⟩
  · exact .inl h2
  · exact .inr ⟨g, cap', cur, hv, by omega, r⟩
end
section
variable {α : Type} {K : Kind α} {P : Program}
variable {o : Oper} {a : Act} {w : World}
variable {ops : Array Oper} {rest : List Oper} {Q : Exit → Act → World → Prop}
/-- A call whose answer is dropped, in a region that draws. -/
theorem o_none {i : Nat} {X : Act → World → Prop} {w' : World} (v : Value) (hi : ops[i]? = some o) (hd : o.dst = none) (hg : Region.wanted o (yielded ops a.tmps) = true) (hr : (execOp a.eval o).run P w = .ok (.value v) w') (h : X a w') : wpOp P ops Q i X a w := by
  unfold wpOp
  rw [hi]
  simp only [hg, if_true]
  exact .inl (by unfold Oper.wp; rw [hr]; show X (a.put o.dst v) w'; rw [hd]; exact h)
/-- 'delete(m, k)' in a region that draws. -/
theorem o_deleteK {α' β' : Type} [DecidableEq α'] {b : Nat} {V : α' → Value} {U : β' → Value} {ok : α' → Prop} {lm : List (α' × β')} {kt : TypeId} {i : Nat} {X : Act → World → Prop} (hi : ops[i]? = some o) (hd : o.dst = none) (hg : Region.wanted o (yielded ops a.tmps) = true)
    (t : TypeId) (x y : Operand) (ho : o.op = .call { callee := .builtin .delete, args := #[x, y], argTypes := #[t, kt] }) (hx : a.eval x = .map (some b)) (k : α') (hk : ok k) (hy : a.eval y = V k) (h : Km.KMap w b V U ok lm) (K' : Km.Keys P kt V ok) {e : TypeId} (ht : P.underlying t = some (.map kt e))
    (hX : ∀ w', Km.KMap w' b V U ok (Km.delK lm k) → Only b w w' → X a w') : wpOp P ops Q i X a w := by
  obtain ⟨w', hr, h1, h2, h3⟩ := Km.run_op_deleteK t x y ho hx k hk hy h K' ht
  exact o_none _ hi hd hg hr (hX w' h1 h2)
end
end Go.Proofs.YtnjmocobncncdaaDoor.Sl
