/-
  Maps keyed by int, block by block: what stands at each place ('IMap'), and what a look-up, a store, a delete, the length and a range over it do. Over whatever program.
-/
import Derived.Test.YtpebadhknpohkaaDoorMemAll
import Derived.Maps.Keyed
import Derived.Maps.RangeRun
import Derived.Maps.RangeWalk
namespace Go.Proofs.YtpebadhknpohkaaDoor.Im
open Go.RowKit Go.MapKept Go.Proofs.YtpebadhknpohkaaDoor.Mem
open Go.Maps (Keyed int_keyed keyOf_int_mk)
open Go.ChangeMaps (setBlock)
set_option linter.unusedVariables false
set_option linter.unusedSimpArgs false

section
variable {α : Type} {P : Program}
/-- A number that an int can be. -/
abbrev Is64 (p : Int) : Prop := (Lit.int .i64 p).wf = true
/-- What stands at a place that may be far off. -/
def atI (m : Nat → Option α) (p : Int) : Option α := if 0 ≤ p then m p.toNat else none
def setM (m : Nat → Option α) (k : Nat) (o : Option α) : Nat → Option α := fun i => if i = k then o else m i
def delI (m : Nat → Option α) (p : Int) : Nat → Option α := fun i => if (i : Int) = p then none else m i
def valO (z : Value) (V : α → Value) : Option α → Value
  | some a => V a
  | none => z
theorem atI_nat (m : Nat → Option α) (k : Nat) : atI m (k : Int) = m k := by simp [atI]
theorem atI_some {m : Nat → Option α} {p : Int} {a : α} (h : atI m p = some a) : ∃ k : Nat, p = (k : Int) ∧ m k = some a := by
  unfold atI at h
  split at h
  · rename_i hp
    exact ⟨p.toNat, by omega, h⟩
  · cases h
/-- The entries hold just what stands at the places. -/
structure Ents (V : α → Value) (es : Array MapEntry) (m : Nat → Option α) : Prop where
  of : ∀ x ∈ es.toList, ∃ (k : Nat) (a : α), x.key = .int .i64 (k : Int) ∧ Is64 (k : Int) ∧ x.val = V a ∧ m k = some a
  has : ∀ (k : Nat) (a : α), m k = some a → ∃ x ∈ es.toList, x.key = .int .i64 (k : Int)
structure IMap (w : World) (b : Nat) (V : α → Value) (m : Nat → Option α) : Prop where
  ex : ∃ es clock, w.heap[b]? = some (.map es clock) ∧ Stamped es clock ∧ Ents V es m
variable {w w' : World} {b r : Nat} {V : α → Value} {m : Nat → Option α}
theorem IMap.lt (h : IMap w b V m) : b < w.heap.size := by
  obtain ⟨es, clock, hb, _⟩ := h.ex
  exact (Array.getElem?_eq_some_iff.1 hb).1
theorem IMap.of_block (h : IMap w b V m) (e : w'.heap[b]? = w.heap[b]?) : IMap w' b V m := by
  obtain ⟨es, clock, hb, he⟩ := h.ex
  exact ⟨es, clock, e.trans hb, he⟩
theorem IMap.below {n : Nat} (h : IMap w b V m) (hb : Below n w w') (hn : b < n) : IMap w' b V m := h.of_block (hb.block b hn)
theorem IMap.old (h : IMap w b V m) (hb : Below w.heap.size w w') : IMap w' b V m := h.below hb h.lt
theorem IMap.only {c : Nat} (h : IMap w b V m) (ho : Only c w w') (hn : b ≠ c) : IMap w' b V m := h.of_block (ho.block b h.lt hn)
theorem IMap.congr {m' : Nat → Option α} (h : IMap w b V m) (e : m = m') : IMap w b V m' := e ▸ h
theorem IMap.row {t : TypeId} {cs : List Value} {c : Nat} (h : IMap w b V m) (g : Row w c t cs) : b ≠ c := by
  rintro rfl
  obtain ⟨es, clock, hb, _⟩ := h.ex
  have := hb.symm.trans (show w.heap[b]? = _ from g)
  cases this
theorem iMap_made (w : World) (V : α → Value) : IMap (w.alloc (.map #[] 0)) w.heap.size V (fun _ => none) :=
  ⟨#[], 0, (MapKept.heap_alloc w _).1, stamped_empty 0, ⟨fun x hx => by simp at hx, fun k a h => by cases h⟩⟩
theorem Ents.keys {es : Array MapEntry} (E : Ents V es m) {kt : TypeId} (hk : P.underlying kt = some (.int .i64)) : ∀ x ∈ es.toList, ∃ l, keyOf P kt x.key = some l := fun x hx => by
  obtain ⟨k, a, hkey, hw, _⟩ := E.of x hx
  rw [hkey]
  exact ⟨_, keyOf_int_mk hk hw⟩
theorem key_nat {k j : Nat} (h : Value.int .i64 (k : Int) = Value.int .i64 (j : Int)) : k = j := by
  simp only [Value.int.injEq, true_and] at h
  omega
theorem Ents.no {es : Array MapEntry} (E : Ents V es m) {p : Int} (h : ∀ x ∈ es.toList, x.key ≠ .int .i64 p) : atI m p = none := by
  cases hc : atI m p with
  | none => rfl
  | some a =>
    obtain ⟨k, rfl, hk⟩ := atI_some hc
    obtain ⟨x, hx, hkey⟩ := E.has k a hk
    exact absurd hkey (h x hx)
theorem Ents.yes {es : Array MapEntry} (E : Ents V es m) {p : Int} {x : MapEntry} (hx : x ∈ es.toList) (h : x.key = .int .i64 p) : ∃ (k : Nat) (a : α), p = (k : Int) ∧ m k = some a ∧ x.val = V a := by
  obtain ⟨k, a, hkey, hw, hv, hm⟩ := E.of x hx
  refine ⟨k, a, ?_, hm, hv⟩
  have := hkey.symm.trans h
  simp only [Value.int.injEq, true_and] at this
  exact this.symm
/-- 'v, ok := m[k]' and 'm[k]'. -/
theorem IMap.lookup (h : IMap w b V m) {t kt e : TypeId} (hk : P.underlying kt = some (.int .i64)) (ht : P.underlying t = some (.map kt e)) {z : Value} (hz : (zeroValue e).run P w = .ok z w) (p : Int) (hp : Is64 p) (c : Bool) :
    (Instr.lookup t (.map (some b)) (.int .i64 p) c).run P w = .ok (if c then .tuple #[valO z V (atI m p), .bool (atI m p).isSome] else valO z V (atI m p)) w := by
  obtain ⟨es, clock, hb, hs, E⟩ := h.ex
  have K := int_keyed hk
  have hkey := keyOf_int_mk hk hp
  rcases K.find w hkey es.toList (E.keys hk) with ⟨h1, h2⟩ | ⟨j, e0, h1, h2, h3⟩
  · rw [E.no h2]
    simp [Instr.lookup, run_underlying ht, MapKept.run_getObj_map hb, K.check w _ hkey, h1, hz, Result.andThen, valO]
  · obtain ⟨k, a, rfl, hm, hv⟩ := E.yes (List.mem_of_getElem? h2) h3
    rw [atI_nat, hm]
    simp [Instr.lookup, run_underlying ht, MapKept.run_getObj_map hb, K.check w _ hkey, h1, Result.andThen, valO, hv]
theorem other_key' {es : Array MapEntry} {clock : Nat} (hs : Stamped es clock) {i j : Nat} {x y : MapEntry} (hx : es.toList[i]? = some x) (hy : es.toList[j]? = some y) (hn : i ≠ j) : x.key ≠ y.key := by
  have hp := ((stamped_iff es clock).1 hs).2.2
  rw [List.pairwise_iff_getElem] at hp
  obtain ⟨hi, rfl⟩ := List.getElem?_eq_some_iff.1 hx
  obtain ⟨hj, rfl⟩ := List.getElem?_eq_some_iff.1 hy
  rcases Nat.lt_or_gt_of_ne hn with g | g
  · exact hp i j hi hj g
  · exact (hp j i hj hi g).symm
theorem setM_here (m : Nat → Option α) (k : Nat) (o : Option α) : setM m k o k = o := if_pos rfl
theorem setM_other {m : Nat → Option α} {k i : Nat} {o : Option α} (h : i ≠ k) : setM m k o i = m i := if_neg h
/-- 'm[k] = v'. -/
theorem IMap.store (h : IMap w b V m) {t kt e : TypeId} (hk : P.underlying kt = some (.int .i64)) (ht : P.underlying t = some (.map kt e)) (k : Nat) (hw : Is64 (k : Int)) (a : α) :
    ∃ w', (Instr.mapUpdate t (.map (some b)) (.int .i64 (k : Int)) (V a)).run P w = .ok () w' ∧ IMap w' b V (setM m k (some a)) ∧ Only b w w' ∧ w'.heap.size = w.heap.size := by
  obtain ⟨es, clock, hb, hs, E⟩ := h.ex
  have K := int_keyed hk
  have hkey := keyOf_int_mk hk hw
  have hlt := (Array.getElem?_eq_some_iff.1 hb).1
  have ow : ∀ o, Only b w (setBlock w b o) := fun o => ⟨rfl, rfl, rfl, by simp [setBlock], fun i _ hn => by simp only [setBlock, Array.getElem?_setIfInBounds, if_neg (Ne.symm hn)]⟩
  have at_b : ∀ o, (setBlock w b o).heap[b]? = some o := fun o => by simp [setBlock, hlt]
  rcases K.find w hkey es.toList (E.keys hk) with ⟨h1, h2⟩ | ⟨j, e0, h1, h2, h3⟩
  · refine ⟨setBlock w b (.map (es.push ⟨.int .i64 (k : Int), V a, clock⟩) (clock + 1)), ?_, ⟨_, _, at_b _, stamped_push hs h2, ⟨?_, ?_⟩⟩, ow _, by simp [setBlock]⟩
    · simp [Instr.mapUpdate, run_underlying ht, MapKept.run_getObj_map hb, K.check w false hkey, h1, MapKept.run_setObj_map _ hb, Result.andThen, setBlock]
    · intro x hx
      simp only [Array.toList_push, List.mem_append, List.mem_singleton] at hx
      rcases hx with hx | rfl
      · obtain ⟨k', a', g1, g2, g3, g4⟩ := E.of x hx
        exact ⟨k', a', g1, g2, g3, by rw [setM_other (fun ee => h2 x hx (by rw [g1, ee]))]; exact g4⟩
      · exact ⟨k, a, rfl, hw, rfl, setM_here _ _ _⟩
    · intro k' a' hm
      simp only [Array.toList_push, List.mem_append, List.mem_singleton]
      by_cases he : k' = k
      · subst he
        exact ⟨_, Or.inr rfl, rfl⟩
      · rw [setM_other he] at hm
        obtain ⟨x, hx, g⟩ := E.has k' a' hm
        exact ⟨x, Or.inl hx, g⟩
  · have hj : es[j]? = some e0 := by simpa using h2
    have hjl : j < es.toList.length := (List.getElem?_eq_some_iff.1 h2).1
    have hkeyf : ∀ e', es[j]? = some e' → ({ e' with key := .int .i64 (k : Int), val := V a } : MapEntry).key = e'.key := fun e' he' => by rw [hj] at he'; cases he'; exact h3.symm
    have hlist : (es.modify j (fun e' => { e' with key := .int .i64 (k : Int), val := V a })).toList = es.toList.set j { e0 with key := .int .i64 (k : Int), val := V a } := by rw [Array.toList_modify, ChangeMaps.modify_eq_set _ _ _ _ h2]
    have who : ∀ x ∈ es.toList.set j { e0 with key := .int .i64 (k : Int), val := V a }, x = { e0 with key := .int .i64 (k : Int), val := V a } ∨ (x ∈ es.toList ∧ x.key ≠ .int .i64 (k : Int)) := by
      intro x hx
      obtain ⟨i, hi, ex⟩ := List.getElem_of_mem hx
      rw [List.getElem_set] at ex
      split at ex
      · exact Or.inl ex.symm
      · rename_i hne
        have hi' : i < es.toList.length := by simpa using hi
        refine Or.inr ⟨ex ▸ List.getElem_mem hi', ?_⟩
        rw [← h3]
        exact other_key' hs (by rw [List.getElem?_eq_getElem hi', ex]) h2 (fun e1 => hne e1.symm)
    refine ⟨setBlock w b (.map (es.modify j (fun e' => { e' with key := .int .i64 (k : Int), val := V a })) clock), ?_, ⟨_, _, at_b _, stamped_modify hs _ _ (fun _ _ => rfl) (fun e' _ he' => hkeyf e' he'), ⟨?_, ?_⟩⟩, ow _, by simp [setBlock]⟩
    · simp [Instr.mapUpdate, run_underlying ht, MapKept.run_getObj_map hb, K.check w false hkey, h1, hj, h3, K.stays w hkey, MapKept.run_setObj_map _ hb, Result.andThen, setBlock]
    · intro x hx
      rw [hlist] at hx
      rcases who x hx with rfl | ⟨hx', hne⟩
      · exact ⟨k, a, rfl, hw, rfl, setM_here _ _ _⟩
      · obtain ⟨k', a', g1, g2, g3, g4⟩ := E.of x hx'
        exact ⟨k', a', g1, g2, g3, by rw [setM_other (fun ee => hne (by rw [g1, ee]))]; exact g4⟩
    · intro k' a' hm
      rw [hlist]
      by_cases he : k' = k
      · subst he
        exact ⟨{ e0 with key := .int .i64 (k' : Int), val := V a }, List.mem_iff_getElem.2 ⟨j, by simpa using hjl, by simp⟩, rfl⟩
      · rw [setM_other he] at hm
        obtain ⟨x, hx, g⟩ := E.has k' a' hm
        obtain ⟨i, hi, ex⟩ := List.getElem_of_mem hx
        refine ⟨x, List.mem_iff_getElem.2 ⟨i, by simpa using hi, ?_⟩, g⟩
        rw [List.getElem_set, if_neg, ex]
        rintro rfl
        have : x = e0 := by rw [List.getElem?_eq_getElem hi, ex] at h2; exact Option.some.inj h2
        subst this
        exact he (key_nat (g.symm.trans h3))
/-- 'delete(m, k)'. -/
theorem IMap.drop (h : IMap w b V m) {t kt e : TypeId} (hk : P.underlying kt = some (.int .i64)) (ht : P.underlying t = some (.map kt e)) (ty : TypeId) (p : Int) (hp : Is64 p) :
    ∃ w', (Builtin.delete_ #[t, kt] ty #[.map (some b), .int .i64 p]).run P w = .ok (.tuple #[]) w' ∧ IMap w' b V (delI m p) ∧ Only b w w' ∧ w'.heap.size = w.heap.size := by
  obtain ⟨es, clock, hb, hs, E⟩ := h.ex
  have K := int_keyed hk
  have hkey := keyOf_int_mk hk hp
  have hlt := (Array.getElem?_eq_some_iff.1 hb).1
  have ow : ∀ o, Only b w (setBlock w b o) := fun o => ⟨rfl, rfl, rfl, by simp [setBlock], fun i _ hn => by simp only [setBlock, Array.getElem?_setIfInBounds, if_neg (Ne.symm hn)]⟩
  have at_b : ∀ o, (setBlock w b o).heap[b]? = some o := fun o => by simp [setBlock, hlt]
  rcases K.find w hkey es.toList (E.keys hk) with ⟨h1, h2⟩ | ⟨j, e0, h1, h2, h3⟩
  · refine ⟨setBlock w b (.map es clock), ?_, ⟨es, clock, at_b _, hs, ?_⟩, ow _, by simp [setBlock]⟩
    · simp [Builtin.delete_, run_underlying ht, MapKept.run_getObj_map hb, K.check w _ hkey, h1, MapKept.run_setObj_map _ hb, Result.andThen, setBlock]
    · have : delI m p = m := by
        funext i
        unfold delI
        split
        · rename_i hi
          have := E.no h2
          rw [← hi, atI_nat] at this
          exact this.symm
        · rfl
      rw [this]
      exact E
  · have hjl : j < es.toList.length := (List.getElem?_eq_some_iff.1 h2).1
    have hjs : j < es.size := by simpa using hjl
    have hsub : (es.eraseIdxIfInBounds j).toList = es.toList.eraseIdx j := by
      unfold Array.eraseIdxIfInBounds
      rw [dif_pos hjs]
      simp
    refine ⟨setBlock w b (.map (es.eraseIdxIfInBounds j) clock), ?_, ⟨_, _, at_b _, stamped_erase hs j, ⟨?_, ?_⟩⟩, ow _, by simp [setBlock]⟩
    · simp [Builtin.delete_, run_underlying ht, MapKept.run_getObj_map hb, K.check w _ hkey, h1, MapKept.run_setObj_map _ hb, Result.andThen, setBlock]
    · intro x hx
      rw [hsub] at hx
      obtain ⟨i, hne, hi⟩ := List.mem_eraseIdx_iff_getElem?.1 hx
      obtain ⟨k', a', g1, g2, g3, g4⟩ := E.of x (List.mem_of_getElem? hi)
      refine ⟨k', a', g1, g2, g3, ?_⟩
      unfold delI
      rw [if_neg]
      · exact g4
      · intro ee
        exact other_key' hs hi h2 hne (by rw [g1, h3, ee])
    · intro k' a' hm
      unfold delI at hm
      split at hm
      · cases hm
      · rename_i he
        obtain ⟨x, hx, g⟩ := E.has k' a' hm
        refine ⟨x, ?_, g⟩
        rw [hsub]
        obtain ⟨i, hi⟩ := List.mem_iff_getElem?.1 hx
        refine List.mem_eraseIdx_iff_getElem?.2 ⟨i, ?_, hi⟩
        rintro rfl
        rw [hi] at h2
        cases h2
        have := g.symm.trans h3
        simp only [Value.int.injEq, true_and] at this
        exact he this
/-- How many of the first n places have something. -/
def cntM (m : Nat → Option α) : Nat → Nat
  | 0 => 0
  | n + 1 => cntM m n + if (m n).isSome then 1 else 0
theorem cntM_filter (m : Nat → Option α) : ∀ n, ((List.range n).filter fun k => (m k).isSome).length = cntM m n
  | 0 => rfl
  | n + 1 => by
    rw [List.range_succ, List.filter_append, List.length_append, cntM_filter m n, show cntM m (n + 1) = cntM m n + if (m n).isSome then 1 else 0 from rfl]
    cases hc : (m n).isSome <;> simp [hc]
theorem Ents.size {es : Array MapEntry} {clock : Nat} (E : Ents V es m) (hs : Stamped es clock) (n : Nat) (hn : ∀ k a, m k = some a → k < n) : es.size = cntM m n := by
  rw [← cntM_filter]
  have hp : (es.toList.map (·.key)).Perm (((List.range n).filter fun k => (m k).isSome).map fun (k : Nat) => Value.int .i64 (k : Int)) := by
    refine (List.perm_ext_iff_of_nodup ?_ ?_).2 fun v => ?_
    · rw [List.Nodup, List.pairwise_map]
      exact ((stamped_iff es clock).1 hs).2.2
    · rw [List.Nodup, List.pairwise_map]
      refine (List.nodup_range.filter _).imp fun {x y} hxy e => hxy (key_nat e)
    · simp only [List.mem_map, List.mem_filter, List.mem_range]
      constructor
      · rintro ⟨x, hx, rfl⟩
        obtain ⟨k, a, g1, _, _, g4⟩ := E.of x hx
        exact ⟨k, ⟨hn k a g4, by rw [g4]; rfl⟩, g1.symm⟩
      · rintro ⟨k, ⟨_, hk⟩, rfl⟩
        obtain ⟨a, ha⟩ := Option.isSome_iff_exists.1 hk
        obtain ⟨x, hx, g⟩ := E.has k a ha
        exact ⟨x, hx, g⟩
  have := hp.length_eq
  simpa using this
/-- 'len(m)'. -/
theorem IMap.len (h : IMap w b V m) {t kt e : TypeId} (ht : P.underlying t = some (.map kt e)) (ty : TypeId) (n : Nat) (hn : ∀ k a, m k = some a → k < n) :
    (Builtin.len_ #[t] ty #[.map (some b)]).run P w = .ok (.int .i64 (cntM m n : Int)) w := by
  obtain ⟨es, clock, hb, hs, E⟩ := h.ex
  simp [Builtin.len_, run_underlying ht, MapKept.run_getObj_map hb, goInt, E.size hs n hn]
/-! ### 'for k := range m' -/
/-- Block r ranges over the map of block b: of what has come, D holds; cnt are still to come. -/
structure Iter (w : World) (b r : Nat) (V : α → Value) (m : Nat → Option α) (D : Nat → Prop) (cnt : Nat) : Prop where
  ex : ∃ es clock since seen c0, w.heap[b]? = some (.map es clock) ∧ Stamped es clock ∧ Ents V es m ∧ w.heap[r]? = some (.mapIter (some b) since seen c0) ∧ (∀ x ∈ es.toList, x.born < since) ∧ since ≤ c0 ∧ since ≤ clock ∧
    (leftOf es seen).size = cnt ∧ ∀ x ∈ es.toList, seen.contains x.born = true → ∀ k : Nat, x.key = .int .i64 (k : Int) → D k
variable {D : Nat → Prop} {cnt : Nat}
theorem Iter.imap (h : Iter w b r V m D cnt) : IMap w b V m := by
  obtain ⟨es, clock, since, seen, c0, hb, hs, E, _⟩ := h.ex
  exact ⟨es, clock, hb, hs, E⟩
theorem Iter.lt (h : Iter w b r V m D cnt) : r < w.heap.size := by
  obtain ⟨es, clock, since, seen, c0, _, _, _, hr, _⟩ := h.ex
  exact (Array.getElem?_eq_some_iff.1 hr).1
theorem Iter.old (h : Iter w b r V m D cnt) (hb' : Below w.heap.size w w') : Iter w' b r V m D cnt := by
  have h1 := h.imap.lt
  have h2 := h.lt
  obtain ⟨es, clock, since, seen, c0, hb, hs, E, hr, rest⟩ := h.ex
  exact ⟨es, clock, since, seen, c0, (hb'.block b h1).trans hb, hs, E, (hb'.block r h2).trans hr, rest⟩
theorem Iter.left_eq (h : Iter w b r V m D cnt) : w.rangeLeft b r = cnt := by
  obtain ⟨es, clock, since, seen, c0, hb, _, _, hr, _, _, _, hc, _⟩ := h.ex
  simp only [World.rangeLeft, hb, hr]
  exact hc
theorem IMap.range (h : IMap w b V m) {t kt e : TypeId} (ht : P.underlying t = some (.map kt e)) (D : Nat → Prop) :
    ∃ w' cnt, (Instr.range t (.map (some b))).run P w = .ok (.pointer (some ⟨w.heap.size, 0, none⟩)) w' ∧ Iter w' b w.heap.size V m D cnt ∧ New w w' := by
  have hlt := h.lt
  obtain ⟨es, clock, hb, hs, E⟩ := h.ex
  refine ⟨_, _, run_range_map w t kt e b es clock ht hb, ⟨es, clock, clock, #[], clock, ((MapKept.heap_alloc w _).2 b hlt).trans hb, hs, E, (MapKept.heap_alloc w _).1, ((stamped_iff es clock).1 hs).1, Nat.le_refl _, Nat.le_refl _, rfl, ?_⟩, new_alloc _ _⟩
  intro x hx hc
  simp at hc
theorem Iter.next (h : Iter w b r V m D cnt) (ty : TypeId) :
    ((∀ k a, m k = some a → D k) ∧ (Instr.next (.pointer (some ⟨r, 0, none⟩)) false ty).run P w = .ok (.tuple #[.bool false]) w) ∨
    ∃ (k : Nat) (a : α) (w' : World), m k = some a ∧ Is64 (k : Int) ∧ (Instr.next (.pointer (some ⟨r, 0, none⟩)) false ty).run P w = .ok (.tuple #[.bool true, .int .i64 (k : Int), V a]) w' ∧
      (D k → ∃ cnt', Iter w' b r V m D cnt' ∧ cnt' < cnt) ∧ IMap w' b V m ∧ Only r w w' ∧ w'.heap.size = w.heap.size ∧ (Instr.entry (.pointer (some ⟨r, 0, none⟩))).run P w' = .ok (.tuple #[.int .i64 (k : Int), V a]) w' := by
  have h1 := h.imap.lt
  obtain ⟨es, clock, since, seen, c0, hb, hs, E, hr, hold, hsc, hsk, rfl, hD⟩ := h.ex
  have hst := (stamped_iff es clock).1 hs
  rcases run_next_at (P := P) w ty r b since c0 seen es clock hr hb hold hsc with ⟨h0, hrun⟩ | ⟨e, he, w1, hal, hrun⟩
  · refine Or.inl ⟨fun k a hm => ?_, hrun⟩
    obtain ⟨x, hx, hkey⟩ := E.has k a hm
    exact hD x hx (all_seen es seen h0 x hx) k hkey
  · have hml := mem_left he
    obtain ⟨k, a, g1, g2, g3, g4⟩ := E.of e hml.1
    rw [g1, g3] at hrun
    have hne : b ≠ r := by
      rintro rfl
      rw [hb] at hr
      cases hr
    have hrl := (Array.getElem?_eq_some_iff.1 hr).1
    have hb1 : w1.heap[b]? = some (.map es clock) := by rcases hal with rfl | rfl <;> exact hb
    have hs1 : w1.heap.size = w.heap.size := by rcases hal with rfl | rfl <;> rfl
    have hb2 : (setBlock w1 r (.mapIter (some b) since (seen.push e.born) clock)).heap[b]? = some (.map es clock) := by
      simp only [setBlock, Array.getElem?_setIfInBounds, if_neg (Ne.symm hne)]; exact hb1
    have hr2 : (setBlock w1 r (.mapIter (some b) since (seen.push e.born) clock)).heap[r]? = some (.mapIter (some b) since (seen.push e.born) clock) := by
      simp [setBlock, hs1, hrl]
    refine Or.inr ⟨k, a, _, g4, g2, hrun, fun hk => ⟨_, ⟨es, clock, since, seen.push e.born, clock, hb2, hs, E, hr2, hold, hsk, hsk, rfl, ?_⟩, left_shrinks es seen e he⟩, ⟨es, clock, hb2, hs, E⟩, ?_, by simp [setBlock, hs1], ?_⟩
    · intro x hx hc k' hk'
      rw [Array.contains_push] at hc
      rcases Bool.or_eq_true_iff.1 hc with hc | hc
      · exact hD x hx hc k' hk'
      · have heq : x.born = e.born := by simpa using hc
        have hxe : x = e := born_inj hst.2.1 hx hml.1 heq
        subst hxe
        obtain rfl := key_nat (hk'.symm.trans g1)
        exact hk
    · refine ⟨?_, ?_, ?_, by simp [setBlock, hs1], fun i hi hn => ?_⟩
      · rcases hal with rfl | rfl <;> rfl
      · rcases hal with rfl | rfl <;> rfl
      · rcases hal with rfl | rfl <;> rfl
      · simp only [setBlock, Array.getElem?_setIfInBounds, if_neg (Ne.symm hn)]
        rcases hal with rfl | rfl <;> rfl
    · have := run_entry_at (P := P) _ r b since seen es clock e hr2 hb2 hml.1 hst.2.1
      rw [g1, g3] at this
      exact this
end
section
variable {P : Program} {ops : Array Oper} {rest : List Oper} {o : Oper} {a : Act} {w : World} {Q : Exit → Act → World → Prop}
variable {α : Type} {b r : Nat} {V : α → Value} {m : Nat → Option α}
theorem run_op_lookupI (t : TypeId) (x y : Operand) (c : Bool) (ho : o.op = .lookup t x y c) (hx : a.eval x = .map (some b)) (p : Int) (hy : a.eval y = .int .i64 p) (h : IMap w b V m) {kt e : TypeId} (hk : P.underlying kt = some (.int .i64)) (ht : P.underlying t = some (.map kt e))
    (z : Value) (hz : (zeroValue e).run P w = .ok z w) (hp : Is64 p) : (execOp a.eval o).run P w = .ok (.value (if c then .tuple #[valO z V (atI m p), .bool (atI m p).isSome] else valO z V (atI m p))) w := by
  unfold execOp
  simp only [ho, hx, hy, Sem.run_bind, h.lookup hk ht hz p hp c, Result.andThen_ok, Sem.run_pure]
theorem run_op_lenI (t : TypeId) (x : Operand) (ho : o.op = .call { callee := .builtin .len, args := #[x], argTypes := #[t] }) (hx : a.eval x = .map (some b)) (h : IMap w b V m) {kt e : TypeId} (ht : P.underlying t = some (.map kt e)) (n : Nat) (hn : ∀ k a, m k = some a → k < n) :
    (execOp a.eval o).run P w = .ok (.value (.int .i64 (cntM m n : Int))) w := by
  unfold execOp
  simp [ho, resolve, invoke, builtin, hx, h.len ht o.type n hn, Result.andThen]
theorem run_op_updateI (t : TypeId) (x y v : Operand) (ho : o.op = .mapUpdate t x y v) (hx : a.eval x = .map (some b)) (k : Nat) (hy : a.eval y = .int .i64 (k : Int)) (u : α) (hv : a.eval v = V u) (h : IMap w b V m) {kt e : TypeId} (hk : P.underlying kt = some (.int .i64)) (ht : P.underlying t = some (.map kt e)) (hw : Is64 (k : Int)) :
    ∃ w', (execOp a.eval o).run P w = .ok .skip w' ∧ IMap w' b V (setM m k (some u)) ∧ Only b w w' ∧ w'.heap.size = w.heap.size := by
  obtain ⟨w', hr, h1, h2, h3⟩ := h.store hk ht k hw u
  refine ⟨w', ?_, h1, h2, h3⟩
  unfold execOp
  simp only [ho, hx, hy, hv, Sem.run_bind, hr, Result.andThen_ok, Sem.run_pure]
theorem run_op_deleteI (t kt : TypeId) (x y : Operand) (ho : o.op = .call { callee := .builtin .delete, args := #[x, y], argTypes := #[t, kt] }) (hx : a.eval x = .map (some b)) (p : Int) (hy : a.eval y = .int .i64 p) (h : IMap w b V m) {e : TypeId} (hk : P.underlying kt = some (.int .i64)) (ht : P.underlying t = some (.map kt e)) (hp : Is64 p) :
    ∃ w', (execOp a.eval o).run P w = .ok (.value (.tuple #[])) w' ∧ IMap w' b V (delI m p) ∧ Only b w w' ∧ w'.heap.size = w.heap.size := by
  obtain ⟨w', hr, h1, h2, h3⟩ := h.drop hk ht o.type p hp
  refine ⟨w', ?_, h1, h2, h3⟩
  unfold execOp
  simp [ho, resolve, invoke, builtin, hx, hy, hr, Result.andThen]
theorem arm_lookupI (hgd : o.guard = none) (t : TypeId) (x y : Operand) (c : Bool) (ho : o.op = .lookup t x y c) (hx : a.eval x = .map (some b)) (p : Int) (hy : a.eval y = .int .i64 p) (hm : IMap w b V m) {kt e : TypeId} (hk : P.underlying kt = some (.int .i64)) (ht : P.underlying t = some (.map kt e))
    (z : Value) (hz : (zeroValue e).run P w = .ok z w) (hp : Is64 p) (u : Value) (hu : (if c then .tuple #[valO z V (atI m p), .bool (atI m p).isSome] else valO z V (atI m p)) = u) (h : wpList P ops Q rest (a.put o.dst u) w) : wpList P ops Q (o :: rest) a w := by
  subst hu
  refine wpList_plain hgd fun K' hK => ?_
  unfold Oper.wp
  rw [run_op_lookupI t x y c ho hx p hy hm hk ht z hz hp]
  exact hK _ _ h
theorem arm_lenI (hgd : o.guard = none) (t : TypeId) (x : Operand) (ho : o.op = .call { callee := .builtin .len, args := #[x], argTypes := #[t] }) (hx : a.eval x = .map (some b)) (hm : IMap w b V m) {kt e : TypeId} (ht : P.underlying t = some (.map kt e)) (n : Nat) (hn : ∀ k a, m k = some a → k < n)
    (h : wpList P ops Q rest (a.put o.dst (.int .i64 (cntM m n : Int))) w) : wpList P ops Q (o :: rest) a w := by
  refine wpList_plain hgd fun K' hK => ?_
  unfold Oper.wp
  rw [run_op_lenI t x ho hx hm ht n hn]
  exact hK _ _ h
theorem arm_updateI (hgd : o.guard = none) (t : TypeId) (x y v : Operand) (ho : o.op = .mapUpdate t x y v) (hx : a.eval x = .map (some b)) (k : Nat) (hy : a.eval y = .int .i64 (k : Int)) (u : α) (hv : a.eval v = V u) (hm : IMap w b V m) {kt e : TypeId} (hk : P.underlying kt = some (.int .i64)) (ht : P.underlying t = some (.map kt e)) (hw : Is64 (k : Int))
    (h : ∀ w', IMap w' b V (setM m k (some u)) → Only b w w' → Hid (w'.heap.size = w.heap.size) → wpList P ops Q rest (a.put o.dst undef) w') : wpList P ops Q (o :: rest) a w := by
  refine wpList_plain hgd fun K' hK => ?_
  obtain ⟨w', hr, h1, h2, h3⟩ := run_op_updateI t x y v ho hx k hy u hv hm hk ht hw
  unfold Oper.wp
  rw [hr]
  exact hK _ _ (h w' h1 h2 h3)
theorem arm_deleteI (hgd : o.guard = none) (t kt : TypeId) (x y : Operand) (ho : o.op = .call { callee := .builtin .delete, args := #[x, y], argTypes := #[t, kt] }) (hx : a.eval x = .map (some b)) (p : Int) (hy : a.eval y = .int .i64 p) (hm : IMap w b V m) {e : TypeId} (hk : P.underlying kt = some (.int .i64)) (ht : P.underlying t = some (.map kt e)) (hp : Is64 p)
    (h : ∀ w', IMap w' b V (delI m p) → Only b w w' → Hid (w'.heap.size = w.heap.size) → wpList P ops Q rest (a.put o.dst (.tuple #[])) w') : wpList P ops Q (o :: rest) a w := by
  refine wpList_plain hgd fun K' hK => ?_
  obtain ⟨w', hr, h1, h2, h3⟩ := run_op_deleteI t kt x y ho hx p hy hm hk ht hp
  unfold Oper.wp
  rw [hr]
  exact hK _ _ (h w' h1 h2 h3)
/-- 'make(map[int]V)'. -/
theorem arm_makeMapI (hgd : o.guard = none) (t : TypeId) (n : Option Operand) (ho : o.op = .makeMap t n) (hn : n = none) (V : α → Value)
    (h : ∀ b w2, Hid (b = w.heap.size) → IMap w2 b V (fun _ => none) → New w w2 → wpList P ops Q rest (a.put o.dst (.map (some b))) w2) : wpList P ops Q (o :: rest) a w := by
  subst hn
  refine wpList_plain hgd fun K hK => ?_
  unfold Oper.wp execOp
  simp only [ho, Option.map_none, Sem.run_bind, run_makeMap, Result.andThen_ok, Sem.run_pure]
  exact hK _ _ (h _ _ rfl (iMap_made w V) (new_alloc _ _))
/-- 'range m'. -/
theorem arm_rangeI (hgd : o.guard = none) (t : TypeId) (x : Operand) (ho : o.op = .range t x) (hx : a.eval x = .map (some b)) (hm : IMap w b V m) {kt e : TypeId} (ht : P.underlying t = some (.map kt e)) (D : Nat → Prop)
    (h : ∀ r w' cnt, Hid (r = w.heap.size) → Iter w' b r V m D cnt → New w w' → wpList P ops Q rest (a.put o.dst (.pointer (some ⟨r, 0, none⟩))) w') : wpList P ops Q (o :: rest) a w := by
  refine wpList_plain hgd fun K' hK => ?_
  obtain ⟨w', cnt, hrun, r1, r2⟩ := hm.range ht D
  unfold Oper.wp
  simp [execOp, ho, hx, hrun, Result.andThen]
  exact hK _ _ (h _ w' cnt rfl r1 r2)
/-- The step. -/
theorem arm_nextI (hgd : o.guard = none) (it : Operand) (ho : o.op = .next it false) (hit : a.eval it = .pointer (some ⟨r, 0, none⟩)) {D : Nat → Prop} {cnt : Nat} (hm : Iter w b r V m D cnt)
    (hDone : (∀ k a, m k = some a → D k) → wpList P ops Q rest (a.put o.dst (.tuple #[.bool false])) w)
    (hMore : ∀ (k : Nat) (u : α) (w' : World), m k = some u → Is64 (k : Int) → (D k → ∃ cnt', Iter w' b r V m D cnt' ∧ cnt' < cnt) → IMap w' b V m → Only r w w' → Hid (w'.heap.size = w.heap.size) →
      (Instr.entry (.pointer (some ⟨r, 0, none⟩))).run P w' = .ok (.tuple #[.int .i64 (k : Int), V u]) w' → wpList P ops Q rest (a.put o.dst (.tuple #[.bool true, .int .i64 (k : Int), V u])) w') :
    wpList P ops Q (o :: rest) a w := by
  refine wpList_plain hgd fun K' hK' => ?_
  unfold Oper.wp
  rcases hm.next (P := P) o.type with ⟨hD, hrun⟩ | ⟨k, u, w', g1, g2, hrun, g3, g4, g5, g6, g7⟩
  · simp [execOp, ho, hit, hrun, Result.andThen]
    exact hK' _ _ (hDone hD)
  · simp [execOp, ho, hit, hrun, Result.andThen]
    exact hK' _ _ (hMore k u w' g1 g2 g3 g4 g5 g6 g7)
theorem o_updateI {i : Nat} {X : Act → World → Prop} (hi : ops[i]? = some o) (hd : o.dst = none) (hg : Region.wanted o (yielded ops a.tmps) = true) (t : TypeId) (x y v : Operand) (ho : o.op = .mapUpdate t x y v) (hx : a.eval x = .map (some b)) (k : Nat) (hy : a.eval y = .int .i64 (k : Int)) (u : α) (hv : a.eval v = V u) (h : IMap w b V m) {kt e : TypeId} (hk : P.underlying kt = some (.int .i64)) (ht : P.underlying t = some (.map kt e)) (hw : Is64 (k : Int))
    (hX : ∀ w', IMap w' b V (setM m k (some u)) → Only b w w' → Hid (w'.heap.size = w.heap.size) → X a w') : wpOp P ops Q i X a w := by
  obtain ⟨w', hr, h1, h2, h3⟩ := run_op_updateI t x y v ho hx k hy u hv h hk ht hw
  exact o_skip hi hd hg hr (hX w' h1 h2 h3)
end
end Go.Proofs.YtpebadhknpohkaaDoor.Im
