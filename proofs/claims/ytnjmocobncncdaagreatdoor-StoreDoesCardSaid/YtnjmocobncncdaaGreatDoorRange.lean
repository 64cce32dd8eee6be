/-
  A range over a function with two loop variables, whose function hands over addresses of memory that it makes as it goes; regions that draw their order in such a function; the body of a round. Over whatever program.
-/
import Derived.Test.YtnjmocobncncdaaGreatDoorMemAll
import Derived.RangeFuncNested
import Derived.RangeFuncBound
import Derived.RangeFuncCalls
import Derived.RangeFuncLeaves
import Derived.Shelf.Abstract
import Derived.OwnWalkIn
import Derived.TacticsInMore
import Derived.LoopNIn
import Derived.LoopIn
import Derived.OrdersIn
namespace Go.Proofs.YtnjmocobncncdaaGreatDoor.Rf
open Go.RowKit Go.Proofs.YtnjmocobncncdaaGreatDoor.Mem
set_option linter.unusedVariables false

/-- All cells lie as they lay. -/
structure Alike (w w' : World) : Prop where
  size : w.heap.size ≤ w'.heap.size
  same : ∀ (k : Nat) (o : Obj), w.heap[k]? = some o → o.isCells = true → w'.heap[k]? = some o
theorem Alike.refl (w : World) : Alike w w := ⟨Nat.le_refl _, fun _ _ h _ => h⟩
theorem Alike.of_below {w w' : World} (h : Below w.heap.size w w') : Alike w w' := ⟨h.size, fun k o hk _ => (h.block k (Array.getElem?_eq_some_iff.1 hk).1).trans hk⟩
theorem Alike.putObj {w : World} {l : Nat} {o : Obj} (o' : Obj) (hl : w.heap[l]? = some o) (ho : o.isCells = false) : Alike w (w.putObj l o') :=
  ⟨by simp, fun k o2 hk h2 => by
    by_cases e : k = l
    · subst e
      rw [hl] at hk
      cases hk
      rw [ho] at h2
      cases h2
    · exact (World.putObj_heap_other e).trans hk⟩
theorem Alike.row {w w' : World} {b : Nat} {t : TypeId} {cs : List Value} (h : Alike w w') (hr : Row w b t cs) : Row w' b t cs := h.same b _ hr rfl
theorem Alike.range {w w' : World} {b o : Nat} {vs : List Value} (h : Alike w w') (hr : w.rangeAt b o vs) : w'.rangeAt b o vs := fun j v hj => by
  have hc := hr j v hj
  obtain ⟨x, hx, hxc⟩ := cells_of_cell hc
  rw [World.cell?_of_block (w := w) (a := ⟨b, o + j, none⟩) ((h.same _ _ hx hxc).trans hx.symm)]
  exact hc
theorem Alike.cell {w w' : World} {a : Addr} {v : Value} (h : Alike w w') (hc : w.cell? a = some v) : w'.cell? a = some v := by
  obtain ⟨x, hx, hxc⟩ := cells_of_cell hc
  rw [World.cell?_of_block (w := w) (a := a) ((h.same _ _ hx hxc).trans hx.symm)]
  exact hc
/-- How the body of a round is left. -/
def roundEnd (n₀ : Nat) (J : World → Prop) (W : World) : Exit → Act → World → Prop
  | .normal, _, W' => KeepsOthers W W' ∧ Below n₀ W W' ∧ J W'
  | _, _, _ => False
/-- The contract of a function that is ranged over: it has N rounds, each with arguments of which E speaks. -/
def Rounds (P : Program) (gf : Nat) (ub : Array Value) (N : Nat) (E : Nat → Value → Value → World → Prop) (w : World) : Prop :=
  ∀ (l : Nat) (K : Nat → World → Prop) (W : World), Below w.heap.size w W → (∀ k A B, K k A → Below A.heap.size A B → K k B) →
    (∀ k x y A, k < N → K k A → E k x y A → YieldAt Fence.wide 0 P l #[x, y] A fun e B => e = .returned (.bool true) ∧ K (k + 1) B ∧ w.heap.size ≤ B.heap.size) → K 0 W →
    Calls P gf (ub ++ #[.func (.yield l) #[] #[]]) W fun e B => (∃ v, e = .returned v) ∧ K N B
theorem below_put {n₀ : Nat} {W : World} {l : Nat} {o o' : Obj} (hl : W.heap[l]? = some o) (hn : n₀ ≤ l) : Below n₀ W (W.putObj l o') :=
  (Below.refl n₀ W).grown (grownBy_putObj' W l o') (by have := (Array.getElem?_eq_some_iff.1 hl).1; omega) (fun k e => by cases e; exact hn)
/-- 'for x, y := range f { .. }', whose body always goes on. -/
theorem wp_range2 {P : Program} {g : Operand} {p q : Tmp} {assign body : Code} {Q : Exit → Act → World → Prop} {a : Act} {w : World}
    {gf : Nat} {ub : Array Value} (hg : a.eval g = .func (.func gf) ub #[]) (eg : ∀ args w, (callFunc gf args).run P w = .ok (.enter gf args) w)
    (n₀ : Nat) (hn : n₀ ≤ w.heap.size) (N : Nat) (J : Nat → World → Prop) (hJ : ∀ k A B, J k A → Alike A B → J k B)
    (E : Nat → Value → Value → World → Prop) (hE : ∀ k x y A B, E k x y A → Alike A B → E k x y B) (h0 : J 0 w)
    (hseq : Rounds P gf ub N E w) (a₁ : Value → Value → Act)
    (hassign : ∀ (l : Nat) (x y : Value) (W : World) (K : Act → World → Prop), K (a₁ x y) W →
      assign.wpIn (Fence.wide.inRound l) 0 P (Exit.then K (fun _ _ _ => False)) { tmps := (a.tmps.setIfInBounds p x).setIfInBounds q y, defers := [] } W)
    (hbody : ∀ (l k : Nat) (x y : Value) (W : World), k < N → J k W → E k x y W → Below n₀ w W → body.wpIn (Fence.wide.inRound l) 0 P (roundEnd n₀ (J (k + 1)) W) (a₁ x y) W)
    (hdone : ∀ (D : Nat) (W : World), w.heap.size ≤ D → J N W → Below n₀ w W → W.heap[D]? = some (.deferred (some [])) → Q .normal { a with defers := { target := .collected D, args := #[] } :: a.defers } W) :
    (Code.rangeFunc g #[p, q] assign body).wpIn Fence.wide 0 P Q a w := by
  refine wpIn_rangeFunc ?_
  intro fn hfn
  rw [show Fence.wide.round = none from rfl]
  obtain ⟨rec, hrec⟩ : ∃ rec : LoopState → Option Code → Loop, rec = fun st pe => { state := st, pending := pe, fn, tmps := a.tmps, params := #[p, q], assign, body, defers := w.heap.size } := ⟨_, rfl⟩
  obtain ⟨W1, hW1⟩ : ∃ W1, (w.alloc (.deferred (some []))).alloc (.loop (rec .ready none)) = W1 := ⟨_, rfl⟩
  have hL1 : W1.heap[w.heap.size + 1]? = some (.loop (rec .ready none)) := by
    rw [← hW1]; have := World.alloc_heap_new (w.alloc (.deferred (some []))) (.loop (rec .ready none)); rwa [World.size_alloc] at this
  have hK1 : W1.heap[w.heap.size]? = some (.deferred (some [])) := by
    rw [← hW1]; exact (Below.heap_alloc _ _ _ (by simp)).trans (World.alloc_heap_new w _)
  have hb1 : Below w.heap.size w W1 := by
    rw [← hW1]; exact ((Below.refl _ w).alloc (Nat.le_refl _) _).alloc (by simp) _
  have hI1 : J 0 W1 := hJ _ _ _ h0 (Alike.of_below hb1)
  refine ⟨w.heap.size + 1, [{ target := .collected w.heap.size, args := #[] }], W1, { target := .fn (.func gf) #[], args := ub ++ #[.func (.yield (w.heap.size + 1)) #[] #[]] }, W1, gf,
    ub ++ #[.func (.yield (w.heap.size + 1)) #[] #[]], W1, ?_, ?_, ?_, ?_, fun h => (by cases h), ?_⟩
  · rw [← hW1, hrec]; exact run_enterLoop_outer _ _ _ _ _
  · simp only [resolve, hg]
    simp [go_sem]
  · intro f' hf'; exact trivial
  · simp [invoke, go_sem, eg]
  · refine callsIn_wide.2 ((hseq (w.heap.size + 1)
      (fun k W => J k W ∧ Below n₀ w W ∧ W.heap[w.heap.size + 1]? = some (.loop (rec .ready none)) ∧ W.heap[w.heap.size]? = some (.deferred (some [])))
      W1 hb1
      (fun k A B hs hAB => ⟨hJ _ _ _ hs.1 (Alike.of_below hAB), hs.2.1.trans (hAB.mono (Nat.le_trans hn hs.2.1.size)), (hAB.block _ (Array.getElem?_eq_some_iff.1 hs.2.2.1).1).trans hs.2.2.1, (hAB.block _ (Array.getElem?_eq_some_iff.1 hs.2.2.2).1).trans hs.2.2.2⟩)
      ?_ ⟨hI1, hb1.mono hn, hL1, hK1⟩).mono ?_)
    · rintro k x y W hk ⟨hi, hb, hl, hD⟩ hxy
      have hlt : w.heap.size + 1 < W.heap.size := (Array.getElem?_eq_some_iff.1 hl).1
      have hy := run_yield (P := P) (args := #[x, y]) hl (by rw [hrec]; rfl)
      rw [hrec] at hy
      have hz : ((#[p, q] : Array Tmp).zip #[x, y]).foldl (fun tmps (t, a) => tmps.setIfInBounds t a) a.tmps = (a.tmps.setIfInBounds p x).setIfInBounds q y := by simp
      simp only [hz] at hy
      refine ⟨fn, _, assign, body, hy, roundIn_of_wpIn hfn (hassign _ x y W _ ⟨_, run_beginRound hl (by rw [hrec]), ?_⟩)⟩
      have hl2 : (W.putObj (w.heap.size + 1) (.loop { rec .ready none with state := .busy })).heap[w.heap.size + 1]? = some (.loop { rec .ready none with state := .busy }) := World.putObj_heap_same hlt
      have hk2 : (W.putObj (w.heap.size + 1) (.loop { rec .ready none with state := .busy })).heap[w.heap.size]? = some (.deferred (some [])) := (World.putObj_heap_other (by omega)).trans hD
      have ha2 : Alike W (W.putObj (w.heap.size + 1) (.loop { rec .ready none with state := .busy })) := Alike.putObj _ hl rfl
      have hw2 : Below n₀ w (W.putObj (w.heap.size + 1) (.loop { rec .ready none with state := .busy })) := hb.trans (below_put hl (by omega))
      refine wpIn_mono (hbody _ k x y _ hk (hJ _ _ _ hi ha2) (hE _ _ _ _ _ hxy ha2) hw2) ?_
      rintro e a3 W3 hp
      cases e with
      | normal =>
        obtain ⟨hk3, hb3, hi3⟩ := hp
        have hl3 := hk3.same _ _ hl2 rfl
        have hr := run_endRound (P := P) none hl3
        have hl4 : (W3.putObj (w.heap.size + 1) (.loop (rec .ready none))).heap[w.heap.size + 1]? = some (.loop (rec .ready none)) := World.putObj_heap_same (Array.getElem?_eq_some_iff.1 hl3).1
        rw [hrec] at hr
        refine ⟨_, _, hr, rfl, ⟨hJ _ _ _ hi3 (Alike.putObj _ hl3 rfl), (hw2.trans hb3).trans (below_put hl3 (by omega)), ?_, (World.putObj_heap_other (by omega)).trans (hk3.same _ _ hk2 rfl)⟩, ?_⟩
        · rw [hrec] at hl4 ⊢; exact hl4
        · have := (Array.getElem?_eq_some_iff.1 hl3).1
          simp
          omega
      | ret => exact hp.elim
      | exit id => exact hp.elim
      | goto t => exact hp.elim
      | panic ch => exact hp.elim
      | outgrown => exact hp.elim
    · rintro e W2 ⟨⟨v, rfl⟩, hi, hb, hl, hD⟩
      exact ⟨none, _, by have := run_endLoop (P := P) hl (by rw [hrec]; simp); rw [hrec] at this; exact this, hdone _ _ (Nat.le_refl _) (hJ _ _ _ hi (Alike.putObj _ hl rfl)) (hb.trans (below_put hl (by omega))) ((World.putObj_heap_other (by omega)).trans hD)⟩

section
variable {n : Nat} {P : Program} {ops : Array Oper} {Q : Exit → Act → World → Prop} {md : Region.Mode} {a : Act} {w : World} {fuel : Nat} {listed : Array Bool} {o : Oper}
theorem i_take (i : Nat) (v : Value) (hi : ops[i]? = some o) (d : Tmp) (hd : o.dst = some d) (hw : Region.wanted o (yielded ops a.tmps) = true)
    (hs : Region.noSelect ops = true) (hf : Region.free md ops listed i = true) (hr : (Region.ready md ops listed).contains i = true)
    (hQ : ∀ c a w, Q (.panic c) (a.put (some d) v) w → Q (.panic c) a w) (hy : ∀ w, (execOp a.eval o).run P w = .ok (.value v) w) (hab : ∀ w, o.about P w a.eval = none)
    (h : wpAnyIn Fence.wide n P md ops Q fuel (listed.setIfInBounds i true) (a.put (some d) v) w) : wpAnyIn Fence.wide n P md ops Q (fuel + 1) listed a w :=
  wpAnyIn_take rfl hi hs hf hr (by rw [hd]; exact hQ) ⟨.inl ⟨hw, hy⟩, hab⟩ (by rw [hd]; exact h)
theorem i_one {i : Nat} (hr : Region.ready md ops listed = [i]) (h : wpOpIn Fence.wide n P ops Q i (wpAnyIn Fence.wide n P md ops Q fuel (listed.setIfInBounds i true)) a w) : wpAnyIn Fence.wide n P md ops Q (fuel + 1) listed a w :=
  wpAnyIn_all hr (by simp) (fun j hj => by obtain rfl : j = i := by simpa using hj
                                           exact h)
theorem i_value {i : Nat} {K : Act → World → Prop} {w' : World} (v : Value) (hi : ops[i]? = some o) (d : Tmp) (hd : o.dst = some d) (hg : Region.wanted o (yielded ops a.tmps) = true) (hr : (execOp a.eval o).run P w = .ok (.value v) w') (h : K (a.put (some d) v) w') : wpOpIn Fence.wide n P ops Q i K a w := by
  unfold wpOpIn
  rw [hi]
  simp only [hg, if_true]
  refine ⟨fun _ _ => trivial, ?_⟩
  rw [show Fence.wide.round = none from rfl, Oper.semAt_none, hr, Oper.uponIn_value, hd]
  exact h
theorem i_call {i : Nat} {K : Act → World → Prop} (hi : ops[i]? = some o) (d : Tmp) (hd : o.dst = some d) (hg : Region.wanted o (yielded ops a.tmps) = true) {f : FuncId} {args : Array Value} {R : Ending → World → Prop} (hr : (execOp a.eval o).run P w = .ok (.enter f args) w)
    (hc : Calls P f args w R) (h : ∀ e w', R e w' → ∃ v, e = .returned v ∧ K (a.put (some d) v) w') : wpOpIn Fence.wide n P ops Q i K a w := by
  unfold wpOpIn
  rw [hi]
  simp only [hg, if_true]
  refine ⟨fun _ _ => trivial, ?_⟩
  rw [show Fence.wide.round = none from rfl, Oper.semAt_none, hr, Oper.uponIn_enter]
  refine ⟨fun h => (by cases h), CallsIn.mono (callsIn_wide.2 hc) fun e w' hR => ?_⟩
  obtain ⟨v, rfl, hk⟩ := h e w' hR
  rw [hd]
  exact hk
theorem run_op_yield (g : Operand) (xs : Array Operand) (ats : Array TypeId) (ho : o.op = .call { callee := .value g, args := xs, argTypes := ats }) (l : Nat) (hg : a.eval g = .func (.yield l) #[] #[]) (args : Array Value) (hx : xs.map a.eval = args) {nx : Next} (hy : (Instr.yield l args).run P w = .ok nx w) : (execOp a.eval o).run P w = .ok nx w := by
  obtain ⟨dst, op, ty, pos, after, guard⟩ := o
  simp only at ho
  subst ho
  unfold execOp
  simp only [resolve, hg, hx]
  simp [go_sem, invoke, hy]
/-- yield is called. -/
theorem i_round {i : Nat} {K : Act → World → Prop} (hi : ops[i]? = some o) (d : Tmp) (hd : o.dst = some d) (hg : Region.wanted o (yielded ops a.tmps) = true) (g : Operand) (xs : Array Operand) (ats : Array TypeId) (ho : o.op = .call { callee := .value g, args := xs, argTypes := ats }) (l : Nat) (hv : a.eval g = .func (.yield l) #[] #[])
    (args : Array Value) (hx : xs.map a.eval = args) {R : World → Prop} (hy : YieldAt Fence.wide 0 P l args w fun e B => e = .returned (.bool true) ∧ R B) (h : ∀ w', R w' → K (a.put (some d) (.bool true)) w') : wpOpIn Fence.wide n P ops Q i K a w := by
  obtain ⟨fn, tmps, assign, body, hrun, hround⟩ := hy
  have hr := run_op_yield g xs ats ho l hv args hx hrun
  unfold wpOpIn
  rw [hi]
  simp only [hg, if_true]
  refine ⟨fun _ _ => trivial, ?_⟩
  rw [show Fence.wide.round = none from rfl, Oper.semAt_none, hr, Oper.uponIn_round]
  refine ⟨fun h => (by cases h), hround.1, fun c cs hroom => ?_⟩
  obtain ⟨e, w', r, s⟩ := hround.2 c cs (room_wide _)
  obtain ⟨rfl, hR⟩ := r
  exact ⟨.returned (.bool true), w', by rw [hd]; exact h w' hR, s⟩
end
section
variable {F : Fence} {n : Nat} {P : Program} {ops : Array Oper} {rest : List Oper} {o : Oper} {a : Act} {w : World} {Q : Exit → Act → World → Prop}
theorem in_slot (d : Tmp) {op : Op} {ty : TypeId} {pos : String} {af : Array Edge} {gd : Option (Nat × Bool)} (h : wpListIn F n P ops Q (⟨some d, op, ty, pos, af, gd⟩ :: rest) a w) : wpListIn F n P ops Q (⟨some d, op, ty, pos, af, gd⟩ :: rest) a w := h
/-- An operation that yields a value, and is no call. -/
theorem in_value (v : Value) {w' : World} (d : Tmp) (hd : o.dst = some d) (hgd : o.guard = none) (hc : ∀ c, o.op ≠ .call c) (hf : ∀ c, o.op ≠ .defer c) (hr : (execOp a.eval o).run P w = .ok (.value v) w') (h : wpListIn F n P ops Q rest (a.put (some d) v) w') : wpListIn F n P ops Q (o :: rest) a w := by
  refine wpListIn_plain hgd fun K hK => ⟨fun f hf => ?_, ?_⟩
  · unfold Oper.about at hf
    cases ho : o.op <;> simp [ho] at hf
    exact absurd ho (hc _)
  · rw [Oper.semAt_eq _ _ _ hf, hr, Oper.uponIn_value, hd]
    exact hK _ _ h
end
section
variable {F : Fence} {n : Nat} {P : Program} {ops : Array Oper} {rest : List Oper} {o : Oper} {a : Act} {w : World} {Q : Exit → Act → World → Prop}
end
section
variable {l n : Nat} {P : Program} {ops : Array Oper} {rest : List Oper} {o : Oper} {a : Act} {w : World} {Q : Exit → Act → World → Prop}
/-- A call in a round. -/
theorem in_call (d : Tmp) (hd : o.dst = some d) (hgd : o.guard = none) (hf : ∀ c, o.op ≠ .defer c) {f : FuncId} {args : Array Value} {R : Ending → World → Prop} (hr : (execOp a.eval o).run P w = .ok (.enter f args) w) (hc : Calls P f args w R)
    (h : ∀ e w', R e w' → ∃ v, e = .returned v ∧ wpListIn (Fence.wide.inRound l) n P ops Q rest (a.put (some d) v) w') : wpListIn (Fence.wide.inRound l) n P ops Q (o :: rest) a w := by
  refine wpListIn_plain hgd fun K hK => ⟨fun _ _ => trivial, ?_⟩
  rw [Oper.semAt_eq _ _ _ hf, hr, Oper.uponIn_enter]
  refine ⟨fun h => (by cases h), CallsIn.mono (CallsIn.inRound l (callsIn_wide.2 hc)) fun e w' hR => ?_⟩
  obtain ⟨v, rfl, hk⟩ := h e w' hR
  rw [hd]
  exact hK _ _ hk
end
section
variable {P : Program} {o : Oper} {a : Act} {w : World}
/-- The address of an element of one cell. -/
theorem run_op_indexS (t : TypeId) (x ix : Operand) (ho : o.op = .indexAddr t x ix) (e : TypeId) (hu : P.underlying t = some (.slice e)) (hse : (P.info? e).map (·.size) = some 1)
    (g off len cap : Nat) (hx : a.eval x = .slice (some ⟨g, off, none⟩) len cap) (kk : IntKind) (k : Nat) (hi : a.eval ix = .int kk (k : Int)) (hk : k < len) : (execOp a.eval o).run P w = .ok (.value (.pointer (some ⟨g, off + k, none⟩))) w := by
  cases hq : P.info? e with
  | none => simp [hq] at hse
  | some ie =>
    have hs : ie.size = 1 := by simpa [hq] using hse
    have h3 : (⟨g, off, none⟩ : Addr).add k = ⟨g, off + k, none⟩ := Addr.add_mid g off k
    unfold execOp
    simp [ho, hx, hi, Instr.indexAt, asIntOf, run_underlying hu, sizeOf, typeInfo, hq, hs, hk, h3]
end
end Go.Proofs.YtnjmocobncncdaaGreatDoor.Rf
