/-
  Maps whose keys are structs or arrays, block by block: a map that holds these entries ('MapAt'), and what a look-up, a store at a new key, and the length of it do. Over whatever program.
-/
import Derived.Test.YtebfdbibeecncaaDoorMem
import Derived.Maps.OwnOps
namespace Go.Proofs.YtebfdbibeecncaaDoor.Mp
open Go.RowKit Go.Proofs.YtebfdbibeecncaaDoor.Mem
set_option linter.unusedVariables false
set_option linter.unusedSimpArgs false

section
variable {α : Type} {P : Program}
/-- Block b is a map of these entries, in the order in which they came. -/
structure MapAt (w : World) (b : Nat) (V : α → Value) (l : List (α × Value)) : Prop where
  ex : ∃ es clock, w.heap[b]? = some (.map es clock) ∧ es.toList.map (fun e => (e.key, e.val)) = l.map fun p => (V p.1, p.2)
variable {w w' : World} {b : Nat} {V : α → Value} {l : List (α × Value)}
theorem MapAt.lt (h : MapAt w b V l) : b < w.heap.size := by
  obtain ⟨es, clock, hb, _⟩ := h.ex
  exact (Array.getElem?_eq_some_iff.1 hb).1
theorem MapAt.of_block (h : MapAt w b V l) (e : w'.heap[b]? = w.heap[b]?) : MapAt w' b V l := by
  obtain ⟨es, clock, hb, he⟩ := h.ex
  exact ⟨es, clock, e.trans hb, he⟩
theorem MapAt.below {n : Nat} (h : MapAt w b V l) (hb : Below n w w') (hn : b < n) : MapAt w' b V l := h.of_block (hb.block b hn)
theorem MapAt.old (h : MapAt w b V l) (hb : Below w.heap.size w w') : MapAt w' b V l := h.below hb h.lt
theorem MapAt.only {c : Nat} (h : MapAt w b V l) (ho : Only c w w') (hn : b ≠ c) : MapAt w' b V l := h.of_block (ho.block b h.lt hn)
theorem MapAt.drewN {n : Nat} (h : MapAt w b V l) : MapAt (w.drewN n) b V l := h.of_block rfl
theorem MapAt.row {t : TypeId} {cs : List Value} {c : Nat} (h : MapAt w b V l) (g : Row w c t cs) : b ≠ c := by
  rintro rfl
  obtain ⟨es, clock, hb, _⟩ := h.ex
  have := hb.symm.trans (show w.heap[b]? = _ from g)
  cases this
theorem mapAt_made (w : World) (V : α → Value) : MapAt (w.alloc (.map #[] 0)) w.heap.size V ([] : List (α × Value)) :=
  ⟨#[], 0, (MapKept.heap_alloc w _).1, rfl⟩

/-- 'len(m)'. -/
theorem MapAt.len (h : MapAt w b V l) {kt t e : TypeId} (ht : P.underlying t = some (.map kt e)) (ty : TypeId) : (Builtin.len_ #[t] ty #[.map (some b)]).run P w = .ok (.int .i64 (l.length : Int)) w := by
  obtain ⟨es, clock, hb, he⟩ := h.ex
  have hs : es.size = l.length := by have := congrArg List.length he; simpa using this
  simp [Builtin.len_, run_underlying ht, MapKept.run_getObj_map hb, goInt, hs]
end
section
variable {α : Type} [DecidableEq α] {P : Program}
/-- What a type's values need to be keys: they can be asked for, and two are the same just if what they stand for is. -/
structure KeyKind (P : Program) (kt : TypeId) (V : α → Value) (ok : α → Prop) : Prop where
  check : ∀ (x : α), ok x → ∀ (em : Bool) (w : World), (Instr.checkKey em 10000 kt (V x)).run P w = .ok () w
  eq : ∀ (x y : α), ok x → ok y → ∀ w : World, (Op.equal kt (V x) (V y)).run P w = .ok (decide (x = y)) w
  slow : ∃ d, P.underlying kt = some d ∧ ∀ v v', Instr.sameNow d v v' = none
/-- What is known under a key. -/
def look (l : List (α × Value)) (x : α) : Option Value := (l.find? fun p => decide (p.1 = x)).map (·.2)
variable {w w' : World} {b : Nat} {V : α → Value} {l : List (α × Value)} {kt : TypeId} {ok : α → Prop}
theorem run_ask (K : KeyKind P kt V ok) (x : α) (hx : ok x) (w : World) : ∀ (l : List (α × Value)) (es : List MapEntry) (i : Nat), (∀ p ∈ l, ok p.1) → es.map (fun e => (e.key, e.val)) = (l.map fun p => (V p.1, p.2)) →
    ∃ r, (Instr.findAsking kt (V x) es i).run P w = .ok r w ∧ r.map (·.2) = look l x
  | [], [], i, _, _ => ⟨none, by simp [Instr.findAsking], rfl⟩
  | [], e :: es, i, _, h => by simp at h
  | p :: l, [], i, _, h => by simp at h
  | p :: l, e :: es, i, hok, h => by
    simp only [List.map_cons, List.cons.injEq, Prod.mk.injEq] at h
    obtain ⟨⟨hk, hv⟩, h⟩ := h
    obtain ⟨r, hr, hl⟩ := run_ask K x hx w l es (i + 1) (fun q hq => hok q (by simp [hq])) h
    have he := K.eq x p.1 hx (hok p (by simp)) w
    by_cases hxp : x = p.1
    · refine ⟨some (i, e.val), ?_, ?_⟩
      · have he2 : decide (x = p.1) = true := by simpa using hxp
        rw [he2] at he
        simp [Instr.findAsking, hk, he]
      · simp [look, ← hxp, hv]
    · refine ⟨r, ?_, ?_⟩
      · simp [Instr.findAsking, hk, he, hxp, hr]
      · rw [hl]; simp [look, List.find?_cons, Ne.symm hxp]
theorem run_find (K : KeyKind P kt V ok) (x : α) (hx : ok x) (w : World) (l : List (α × Value)) (es : List MapEntry) (hok : ∀ p ∈ l, ok p.1) (h : es.map (fun e => (e.key, e.val)) = (l.map fun p => (V p.1, p.2))) :
    ∃ r, (Instr.findKey kt (V x) es).run P w = .ok r w ∧ r.map (·.2) = look l x := by
  obtain ⟨d, hd, hs⟩ := K.slow
  cases es with
  | nil =>
    have hl : l = [] := by simpa using h.symm
    subst hl
    exact ⟨none, by simp [Instr.findKey, run_underlying hd, Instr.findNow], rfl⟩
  | cons e es =>
    obtain ⟨r, hr, hl⟩ := run_ask K x hx w l (e :: es) 0 hok h
    exact ⟨r, by simp only [Instr.findKey, Sem.run_bind, run_underlying hd, Result.andThen_ok, Instr.findNow, hs, hr], hl⟩
/-- 'v, ok := m[k]'. -/
theorem MapAt.lookup (h : MapAt w b V l) (K : KeyKind P kt V ok) {t e : TypeId} (ht : P.underlying t = some (.map kt e)) {z : Value} (hz : (zeroValue e).run P w = .ok z w) (hok : ∀ p ∈ l, ok p.1) (x : α) (hx : ok x) :
    (Instr.lookup t (.map (some b)) (V x) true).run P w = .ok (.tuple #[(look l x).getD z, .bool (look l x).isSome]) w := by
  obtain ⟨es, clock, hb, he⟩ := h.ex
  obtain ⟨r, hr, hl⟩ := run_find K x hx w l es.toList hok he
  rw [← hl]
  cases r with
  | none => simp [Instr.lookup, run_underlying ht, MapKept.run_getObj_map hb, K.check x hx, hr, hz]
  | some iv => simp [Instr.lookup, run_underlying ht, MapKept.run_getObj_map hb, K.check x hx, hr]
/-- 'm[k] = v' at a key that is not there. -/
theorem MapAt.store (h : MapAt w b V l) (K : KeyKind P kt V ok) {t e : TypeId} (ht : P.underlying t = some (.map kt e)) (hok : ∀ p ∈ l, ok p.1) (x : α) (hx : ok x) (hno : look l x = none) (v : Value) :
    ∃ w', (Instr.mapUpdate t (.map (some b)) (V x) v).run P w = .ok () w' ∧ MapAt w' b V (l ++ [(x, v)]) ∧ Only b w w' ∧ w'.heap.size = w.heap.size := by
  obtain ⟨es, clock, hb, he⟩ := h.ex
  obtain ⟨r, hr, hl⟩ := run_find K x hx w l es.toList hok he
  rw [hno] at hl
  cases r with
  | some iv => simp at hl
  | none =>
    refine ⟨{ w with heap := w.heap.setIfInBounds b (.map (es.push ⟨V x, v, clock⟩) (clock + 1)) }, ?_, ⟨es.push ⟨V x, v, clock⟩, clock + 1, ?_, ?_⟩, ⟨rfl, rfl, rfl, by simp, fun k _ hn => ?_⟩, by simp⟩
    · simp [Instr.mapUpdate, run_underlying ht, MapKept.run_getObj_map hb, K.check x hx, hr, MapKept.run_setObj_map _ hb]
    · have hlt := (Array.getElem?_eq_some_iff.1 hb).1
      simp [hlt]
    · simp [he]
    · simp only [Array.getElem?_setIfInBounds, if_neg (Ne.symm hn)]
theorem look_none {l : List (α × Value)} {x : α} : look l x = none ↔ ∀ p ∈ l, p.1 ≠ x := by
  unfold look
  rw [Option.map_eq_none_iff, List.find?_eq_none]
  simp
end
section
variable {P : Program} {ops : Array Oper} {rest : List Oper} {o : Oper} {a : Act} {w : World} {Q : Exit → Act → World → Prop}
variable {α : Type} {b : Nat} {V : α → Value} {l : List (α × Value)} {kt : TypeId} {ok : α → Prop}
/-- 'make(map[K]V)'. -/
theorem arm_makeMap (hgd : o.guard = none) (t : TypeId) (ho : o.op = .makeMap t none) (V : α → Value)
    (h : ∀ b w2, Hid (b = w.heap.size) → MapAt w2 b V ([] : List (α × Value)) → New w w2 → wpList P ops Q rest (a.put o.dst (.map (some b))) w2) : wpList P ops Q (o :: rest) a w := by
  refine wpList_plain hgd fun K hK => ?_
  unfold Oper.wp execOp
  simp only [ho, Option.map_none, Sem.run_bind, run_makeMap, Result.andThen_ok, Sem.run_pure]
  exact hK _ _ (h _ _ rfl (mapAt_made w V) (new_alloc _ _))
theorem run_op_lookup [DecidableEq α] (t : TypeId) (x y : Operand) (ho : o.op = .lookup t x y true) (hx : a.eval x = .map (some b)) (k : α) (hk : ok k) (hy : a.eval y = V k) (h : MapAt w b V l) (K : KeyKind P kt V ok) {e : TypeId} (ht : P.underlying t = some (.map kt e))
    (z : Value) (hz : (zeroValue e).run P w = .ok z w) (hok : ∀ p ∈ l, ok p.1) : (execOp a.eval o).run P w = .ok (.value (.tuple #[(look l k).getD z, .bool (look l k).isSome])) w := by
  unfold execOp
  simp only [ho, hx, hy, Sem.run_bind, h.lookup K ht hz hok k hk, Result.andThen_ok, Sem.run_pure]
theorem run_op_len (t : TypeId) (x : Operand) (ho : o.op = .call { callee := .builtin .len, args := #[x], argTypes := #[t] }) (hx : a.eval x = .map (some b)) (h : MapAt w b V l) {kt e : TypeId} (ht : P.underlying t = some (.map kt e)) :
    (execOp a.eval o).run P w = .ok (.value (.int .i64 (l.length : Int))) w := by
  unfold execOp
  simp [ho, resolve, invoke, builtin, hx, h.len ht o.type, Result.andThen]
theorem run_op_update [DecidableEq α] (t : TypeId) (x y v : Operand) (ho : o.op = .mapUpdate t x y v) (hx : a.eval x = .map (some b)) (k : α) (hk : ok k) (hy : a.eval y = V k) (u : Value) (hv : a.eval v = u) (h : MapAt w b V l) (K : KeyKind P kt V ok) {e : TypeId} (ht : P.underlying t = some (.map kt e))
    (hok : ∀ p ∈ l, ok p.1) (hno : look l k = none) : ∃ w', (execOp a.eval o).run P w = .ok .skip w' ∧ MapAt w' b V (l ++ [(k, u)]) ∧ Only b w w' ∧ w'.heap.size = w.heap.size := by
  obtain ⟨w', hr, h1, h2, h3⟩ := h.store K ht hok k hk hno u
  refine ⟨w', ?_, h1, h2, h3⟩
  unfold execOp
  simp only [ho, hx, hy, hv, Sem.run_bind, hr, Result.andThen_ok, Sem.run_pure]
theorem arm_lookup [DecidableEq α] (hgd : o.guard = none) (t : TypeId) (x y : Operand) (ho : o.op = .lookup t x y true) (hx : a.eval x = .map (some b)) (k : α) (hk : ok k) (hy : a.eval y = V k) (hm : MapAt w b V l) (K : KeyKind P kt V ok) {e : TypeId} (ht : P.underlying t = some (.map kt e))
    (z : Value) (hz : (zeroValue e).run P w = .ok z w) (hok : ∀ p ∈ l, ok p.1) (u : Value) (hu : (look l k).getD z = u) (is : Bool) (his : (look l k).isSome = is) (h : wpList P ops Q rest (a.put o.dst (.tuple #[u, .bool is])) w) : wpList P ops Q (o :: rest) a w := by
  subst hu his
  refine wpList_plain hgd fun K' hK => ?_
  unfold Oper.wp
  rw [run_op_lookup t x y ho hx k hk hy hm K ht z hz hok]
  exact hK _ _ h
theorem arm_len (hgd : o.guard = none) (t : TypeId) (x : Operand) (ho : o.op = .call { callee := .builtin .len, args := #[x], argTypes := #[t] }) (hx : a.eval x = .map (some b)) (hm : MapAt w b V l) {kt e : TypeId} (ht : P.underlying t = some (.map kt e))
    (h : wpList P ops Q rest (a.put o.dst (.int .i64 (l.length : Int))) w) : wpList P ops Q (o :: rest) a w := by
  refine wpList_plain hgd fun K' hK => ?_
  unfold Oper.wp
  rw [run_op_len t x ho hx hm ht]
  exact hK _ _ h
theorem arm_update [DecidableEq α] (hgd : o.guard = none) (t : TypeId) (x y v : Operand) (ho : o.op = .mapUpdate t x y v) (hx : a.eval x = .map (some b)) (k : α) (hk : ok k) (hy : a.eval y = V k) (u : Value) (hv : a.eval v = u) (hm : MapAt w b V l) (K : KeyKind P kt V ok) {e : TypeId} (ht : P.underlying t = some (.map kt e))
    (hok : ∀ p ∈ l, ok p.1) (hno : look l k = none) (h : ∀ w', MapAt w' b V (l ++ [(k, u)]) → Only b w w' → Hid (w'.heap.size = w.heap.size) → wpList P ops Q rest (a.put o.dst undef) w') : wpList P ops Q (o :: rest) a w := by
  refine wpList_plain hgd fun K' hK => ?_
  obtain ⟨w', hr, h1, h2, h3⟩ := run_op_update t x y v ho hx k hk hy u hv hm K ht hok hno
  unfold Oper.wp
  rw [hr]
  exact hK _ _ (h w' h1 h2 h3)
end
end Go.Proofs.YtebfdbibeecncaaDoor.Mp
