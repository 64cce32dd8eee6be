/-
  Maps keyed by arrays or structs that may grow, change and lose entries: what a look-up, a store, a delete, the length and a range over them do. Over whatever program. (l = what stands in it, by V keys, by U values.)
-/
import Derived.Test.YtnjmocobncncdaaGreatDoorMemAll
import Derived.Test.YtnjmocobncncdaaGreatDoorBytAll
import Derived.Maps.Keyed
import Derived.Maps.RangeRun
import Derived.Maps.RangeWalk
namespace Go.Proofs.YtnjmocobncncdaaGreatDoor.Km
open Go.RowKit Go.MapKept Go.Proofs.YtnjmocobncncdaaGreatDoor.Mem Go.Proofs.YtnjmocobncncdaaGreatDoor.Bt
open Go.ChangeMaps (setBlock)
set_option linter.unusedVariables false
set_option linter.unusedSimpArgs false
set_option linter.unusedSectionVars false

section
variable {α β : Type} [DecidableEq α]
/-- What stands under a key; with a value put; without a key. -/
def look (l : List (α × β)) (x : α) : Option β := (l.find? fun p => decide (p.1 = x)).map (·.2)
def putK (l : List (α × β)) (x : α) (v : β) : List (α × β) := if (look l x).isSome then l.map (fun p => if p.1 = x then (x, v) else p) else l ++ [(x, v)]
def delK (l : List (α × β)) (x : α) : List (α × β) := l.filter fun p => decide (p.1 ≠ x)
theorem look_none {l : List (α × β)} {x : α} : look l x = none ↔ ∀ p ∈ l, p.1 ≠ x := by
  unfold look
  rw [Option.map_eq_none_iff, List.find?_eq_none]
  simp
theorem look_at {l : List (α × β)} (hn : (l.map Prod.fst).Nodup) {x : α} {v : β} (h : (x, v) ∈ l) : look l x = some v := by
  induction l with
  | nil => exact nomatch h
  | cons p l ih =>
    unfold look
    rw [List.find?_cons]
    rw [List.map_cons] at hn
    obtain ⟨h1, h2⟩ := List.nodup_cons.1 hn
    rcases List.mem_cons.1 h with rfl | h
    · simp
    · have hp : p.1 ≠ x := fun e => h1 (e ▸ List.mem_map.2 ⟨(x, v), h, rfl⟩)
      rw [decide_eq_false hp]
      exact ih h2 h
theorem set_at : ∀ {l : List (α × β)}, (l.map Prod.fst).Nodup → ∀ {j : Nat} {x : α} {u : β}, l[j]? = some (x, u) → ∀ v : β, l.set j (x, v) = l.map (fun p => if p.1 = x then (x, v) else p)
  | [], _, j, x, u, hj, v => by simp at hj
  | p :: l, hn, 0, x, u, hj, v => by
    rw [List.map_cons] at hn
    obtain ⟨h1, h2⟩ := List.nodup_cons.1 hn
    simp only [List.getElem?_cons_zero, Option.some.injEq] at hj
    subst hj
    rw [List.set_cons_zero, List.map_cons, if_pos rfl]
    congr 1
    conv => lhs; rw [← List.map_id l]
    exact List.map_congr_left fun q hq => (if_neg (fun e => h1 (List.mem_map.2 ⟨q, hq, e⟩))).symm
  | p :: l, hn, j + 1, x, u, hj, v => by
    rw [List.map_cons] at hn
    obtain ⟨h1, h2⟩ := List.nodup_cons.1 hn
    simp only [List.getElem?_cons_succ] at hj
    have hp : p.1 ≠ x := fun e => h1 (e ▸ List.mem_map.2 ⟨(x, u), List.mem_of_getElem? hj, rfl⟩)
    rw [List.set_cons_succ, List.map_cons, if_neg hp, set_at h2 hj]
theorem erase_at : ∀ {l : List (α × β)}, (l.map Prod.fst).Nodup → ∀ {j : Nat} {x : α} {u : β}, l[j]? = some (x, u) → l.eraseIdx j = delK l x
  | [], _, j, x, u, hj => by simp at hj
  | p :: l, hn, 0, x, u, hj => by
    rw [List.map_cons] at hn
    obtain ⟨h1, h2⟩ := List.nodup_cons.1 hn
    simp only [List.getElem?_cons_zero, Option.some.injEq] at hj
    subst hj
    unfold delK
    rw [List.eraseIdx_cons_zero, List.filter_cons_of_neg (by simp)]
    exact (List.filter_eq_self.2 fun q hq => by simpa using fun e => h1 (List.mem_map.2 ⟨q, hq, e⟩)).symm
  | p :: l, hn, j + 1, x, u, hj => by
    rw [List.map_cons] at hn
    obtain ⟨h1, h2⟩ := List.nodup_cons.1 hn
    simp only [List.getElem?_cons_succ] at hj
    have hp : p.1 ≠ x := fun e => h1 (e ▸ List.mem_map.2 ⟨(x, u), List.mem_of_getElem? hj, rfl⟩)
    unfold delK
    rw [List.eraseIdx_cons_succ, List.filter_cons_of_pos (by simpa using hp), erase_at h2 hj]
    rfl
theorem map_erase {γ δ : Type} (f : γ → δ) : ∀ (l : List γ) (i : Nat), (l.eraseIdx i).map f = (l.map f).eraseIdx i
  | [], i => rfl
  | x :: l, 0 => rfl
  | x :: l, i + 1 => by rw [List.eraseIdx_cons_succ, List.map_cons, List.map_cons, List.eraseIdx_cons_succ, map_erase f l i]
theorem del_none {l : List (α × β)} {x : α} (h : ∀ p ∈ l, p.1 ≠ x) : delK l x = l := List.filter_eq_self.2 fun q hq => decide_eq_true (h q hq)
end
section
variable {α β : Type} [DecidableEq α] {P : Program}
/-- What a type's values need to be keys of a map that changes. -/
structure Keys (P : Program) (kt : TypeId) (V : α → Value) (ok : α → Prop) : Prop where
  kind : Mp.KeyKind P kt V ok
  stays : ∀ x, ok x → ∀ w : World, (Instr.keyThatStays (V x) (V x)).run P w = .ok (V x) w
  inj : ∀ x y, V x = V y → x = y
structure KMap (w : World) (b : Nat) (V : α → Value) (U : β → Value) (ok : α → Prop) (l : List (α × β)) : Prop where
  ex : ∃ es clock, w.heap[b]? = some (.map es clock) ∧ Stamped es clock ∧ es.toList.map (fun e => (e.key, e.val)) = l.map fun p => (V p.1, U p.2)
  all : ∀ p ∈ l, ok p.1
variable {w w' : World} {b r : Nat} {V : α → Value} {U : β → Value} {ok : α → Prop} {l : List (α × β)} {kt : TypeId}
theorem KMap.lt (h : KMap w b V U ok l) : b < w.heap.size := by
  obtain ⟨es, clock, hb, _⟩ := h.ex
  exact (Array.getElem?_eq_some_iff.1 hb).1
theorem KMap.of_block (h : KMap w b V U ok l) (e : w'.heap[b]? = w.heap[b]?) : KMap w' b V U ok l := by
  obtain ⟨es, clock, hb, he⟩ := h.ex
  exact ⟨⟨es, clock, e.trans hb, he⟩, h.all⟩
theorem KMap.below {n : Nat} (h : KMap w b V U ok l) (hb : Below n w w') (hn : b < n) : KMap w' b V U ok l := h.of_block (hb.block b hn)
theorem KMap.old (h : KMap w b V U ok l) (hb : Below w.heap.size w w') : KMap w' b V U ok l := h.below hb h.lt
theorem KMap.only {c : Nat} (h : KMap w b V U ok l) (ho : Only c w w') (hn : b ≠ c) : KMap w' b V U ok l := h.of_block (ho.block b h.lt hn)
theorem KMap.row {t : TypeId} {cs : List Value} {c : Nat} (h : KMap w b V U ok l) (g : Row w c t cs) : b ≠ c := by
  rintro rfl
  obtain ⟨es, clock, hb, _⟩ := h.ex
  have := hb.symm.trans (show w.heap[b]? = _ from g)
  cases this
theorem kMap_made (w : World) (V : α → Value) (U : β → Value) (ok : α → Prop) : KMap (w.alloc (.map #[] 0)) w.heap.size V U ok ([] : List (α × β)) :=
  ⟨⟨#[], 0, (MapKept.heap_alloc w _).1, stamped_empty 0, rfl⟩, fun p hp => (nomatch hp)⟩
theorem keys_of {es : Array MapEntry} (he : es.toList.map (fun e => (e.key, e.val)) = l.map fun p => (V p.1, U p.2)) : es.toList.map (·.key) = l.map fun p => V p.1 := by
  have := congrArg (List.map Prod.fst) he
  simpa [List.map_map, Function.comp_def] using this
theorem KMap.nodup (h : KMap w b V U ok l) : (l.map Prod.fst).Nodup := by
  obtain ⟨es, clock, _, hs, he⟩ := h.ex
  have h1 : (es.toList.map (·.key)).Nodup := hs.2.2
  rw [keys_of he] at h1
  rw [List.Nodup, List.pairwise_map] at h1 ⊢
  exact h1.imp fun hne e => hne (congrArg V e)
theorem run_ask (K : Keys P kt V ok) (x : α) (hx : ok x) (w : World) : ∀ (l : List (α × β)) (es : List MapEntry) (i : Nat), (∀ p ∈ l, ok p.1) → es.map (fun e => (e.key, e.val)) = (l.map fun p => (V p.1, U p.2)) →
    ∃ r, (Instr.findAsking kt (V x) es i).run P w = .ok r w ∧ ((r = none ∧ ∀ p ∈ l, p.1 ≠ x) ∨ ∃ j v, r = some (i + j, U v) ∧ l[j]? = some (x, v))
  | [], [], i, _, _ => ⟨none, by simp [Instr.findAsking], .inl ⟨rfl, fun p hp => (nomatch hp)⟩⟩
  | [], e :: es, i, _, h => by simp at h
  | p :: l, [], i, _, h => by simp at h
  | p :: l, e :: es, i, hok, h => by
    simp only [List.map_cons, List.cons.injEq, Prod.mk.injEq] at h
    obtain ⟨⟨hk, hv⟩, h⟩ := h
    obtain ⟨r, hr, hl⟩ := run_ask K x hx w l es (i + 1) (fun q hq => hok q (by simp [hq])) h
    have he := K.kind.eq x p.1 hx (hok p (by simp)) w
    by_cases hxp : x = p.1
    · refine ⟨some (i, e.val), ?_, .inr ⟨0, p.2, by rw [hv]; rfl, by rw [hxp]; rfl⟩⟩
      have he2 : decide (x = p.1) = true := by simpa using hxp
      rw [he2] at he
      simp [Instr.findAsking, hk, he]
    · refine ⟨r, ?_, ?_⟩
      · simp [Instr.findAsking, hk, he, hxp, hr]
      · rcases hl with ⟨h1, h2⟩ | ⟨j, v, h1, h2⟩
        · refine .inl ⟨h1, fun q hq => ?_⟩
          rcases List.mem_cons.1 hq with rfl | hq
          · exact fun e => hxp e.symm
          · exact h2 q hq
        · exact .inr ⟨j + 1, v, by rw [h1, Nat.add_assoc, Nat.add_comm 1 j], by rw [List.getElem?_cons_succ]; exact h2⟩
theorem run_find (K : Keys P kt V ok) (x : α) (hx : ok x) (w : World) (l : List (α × β)) (es : List MapEntry) (hok : ∀ p ∈ l, ok p.1) (h : es.map (fun e => (e.key, e.val)) = (l.map fun p => (V p.1, U p.2))) :
    ((Instr.findKey kt (V x) es).run P w = .ok none w ∧ ∀ p ∈ l, p.1 ≠ x) ∨ ∃ j v, (Instr.findKey kt (V x) es).run P w = .ok (some (j, U v)) w ∧ l[j]? = some (x, v) := by
  obtain ⟨d, hd, hs⟩ := K.kind.slow
  cases es with
  | nil =>
    have hl : l = [] := by simpa using h.symm
    subst hl
    exact .inl ⟨by simp [Instr.findKey, run_underlying hd, Instr.findNow], fun p hp => (nomatch hp)⟩
  | cons e es =>
    obtain ⟨r, hr, hl⟩ := run_ask K x hx w l (e :: es) 0 hok h
    have hf : (Instr.findKey kt (V x) (e :: es)).run P w = .ok r w := by simp only [Instr.findKey, Sem.run_bind, run_underlying hd, Result.andThen_ok, Instr.findNow, hs, hr]
    rcases hl with ⟨h1, h2⟩ | ⟨j, v, h1, h2⟩
    · subst h1; exact .inl ⟨hf, h2⟩
    · rw [Nat.zero_add] at h1; subst h1; exact .inr ⟨j, v, hf, h2⟩
/-- 'm[k]' and 'v, ok := m[k]'. -/
theorem KMap.lookup (h : KMap w b V U ok l) (K : Keys P kt V ok) {t e : TypeId} (ht : P.underlying t = some (.map kt e)) {z : Value} (hz : (zeroValue e).run P w = .ok z w) (x : α) (hx : ok x) (c : Bool) :
    (Instr.lookup t (.map (some b)) (V x) c).run P w = .ok (if c then .tuple #[((look l x).map U).getD z, .bool (look l x).isSome] else ((look l x).map U).getD z) w := by
  have hn := h.nodup
  obtain ⟨es, clock, hb, hs, he⟩ := h.ex
  rcases run_find K x hx w l es.toList h.all he with ⟨h1, h2⟩ | ⟨j, v, h1, h2⟩
  · rw [look_none.2 h2]
    simp [Instr.lookup, run_underlying ht, MapKept.run_getObj_map hb, K.kind.check x hx, h1, hz, Result.andThen]
  · rw [look_at hn (List.mem_of_getElem? h2)]
    simp [Instr.lookup, run_underlying ht, MapKept.run_getObj_map hb, K.kind.check x hx, h1, Result.andThen]
/-- 'm[k] = v'. -/
theorem KMap.store (h : KMap w b V U ok l) (K : Keys P kt V ok) {t e : TypeId} (ht : P.underlying t = some (.map kt e)) (x : α) (hx : ok x) (v : β) :
    ∃ w', (Instr.mapUpdate t (.map (some b)) (V x) (U v)).run P w = .ok () w' ∧ KMap w' b V U ok (putK l x v) ∧ Only b w w' ∧ w'.heap.size = w.heap.size := by
  have hn := h.nodup
  obtain ⟨es, clock, hb, hs, he⟩ := h.ex
  have hlt := (Array.getElem?_eq_some_iff.1 hb).1
  have ow : ∀ o, Only b w (setBlock w b o) := fun o => ⟨rfl, rfl, rfl, by simp [setBlock], fun i _ hn => by simp only [setBlock, Array.getElem?_setIfInBounds, if_neg (Ne.symm hn)]⟩
  have at_b : ∀ o, (setBlock w b o).heap[b]? = some o := fun o => by simp [setBlock, hlt]
  have hall : ∀ p ∈ putK l x v, ok p.1 := by
    intro p hp
    unfold putK at hp
    split at hp
    · obtain ⟨q, hq, rfl⟩ := List.mem_map.1 hp
      split
      · exact hx
      · exact h.all q hq
    · rcases List.mem_append.1 hp with hp | hp
      · exact h.all p hp
      · rw [List.mem_singleton] at hp; rw [hp]; exact hx
  rcases run_find K x hx w l es.toList h.all he with ⟨h1, h2⟩ | ⟨j, u, h1, h2⟩
  · have hno : ∀ y ∈ es.toList, y.key ≠ V x := by
      intro y hy e
      have hk : y.key ∈ es.toList.map (·.key) := List.mem_map.2 ⟨y, hy, rfl⟩
      rw [keys_of he] at hk
      obtain ⟨p, hp, hq⟩ := List.mem_map.1 hk
      exact h2 p hp (K.inj _ _ (hq.trans e))
    refine ⟨setBlock w b (.map (es.push ⟨V x, U v, clock⟩) (clock + 1)), ?_, ⟨⟨_, _, at_b _, stamped_push hs hno, ?_⟩, hall⟩, ow _, by simp [setBlock]⟩
    · simp [Instr.mapUpdate, run_underlying ht, MapKept.run_getObj_map hb, K.kind.check x hx, h1, MapKept.run_setObj_map _ hb, Result.andThen, setBlock]
    · unfold putK
      rw [look_none.2 h2]
      simp [he]
  · have hel : (es.toList.map fun e => (e.key, e.val))[j]? = some (V x, U u) := by rw [he, List.getElem?_map, h2]; rfl
    rw [List.getElem?_map] at hel
    obtain ⟨e0, g1, g2⟩ := Option.map_eq_some_iff.1 hel
    have hk0 : e0.key = V x := congrArg Prod.fst g2
    have hj : es[j]? = some e0 := by simpa using g1
    have hkeyf : ∀ e', es[j]? = some e' → ({ e' with key := V x, val := U v } : MapEntry).key = e'.key := fun e' he' => by rw [hj] at he'; cases he'; exact hk0.symm
    have hlist : (es.modify j (fun e' => { e' with key := V x, val := U v })).toList = es.toList.set j { e0 with key := V x, val := U v } := by rw [Array.toList_modify, ChangeMaps.modify_eq_set _ _ _ _ g1]
    refine ⟨setBlock w b (.map (es.modify j (fun e' => { e' with key := V x, val := U v })) clock), ?_, ⟨⟨_, _, at_b _, stamped_modify hs _ _ (fun _ _ => rfl) (fun e' _ he' => hkeyf e' he'), ?_⟩, hall⟩, ow _, by simp [setBlock]⟩
    · simp [Instr.mapUpdate, run_underlying ht, MapKept.run_getObj_map hb, K.kind.check x hx, h1, hj, hk0, K.stays x hx, MapKept.run_setObj_map _ hb, Result.andThen, setBlock]
    · have e : putK l x v = l.set j (x, v) := by
        unfold putK
        rw [look_at hn (List.mem_of_getElem? h2), set_at hn h2]
        rfl
      rw [hlist, List.map_set, he, e, List.map_set]
/-- 'delete(m, k)'. -/
theorem KMap.drop (h : KMap w b V U ok l) (K : Keys P kt V ok) {t e : TypeId} (ht : P.underlying t = some (.map kt e)) (ty : TypeId) (x : α) (hx : ok x) :
    ∃ w', (Builtin.delete_ #[t, kt] ty #[.map (some b), V x]).run P w = .ok (.tuple #[]) w' ∧ KMap w' b V U ok (delK l x) ∧ Only b w w' ∧ w'.heap.size = w.heap.size := by
  have hn := h.nodup
  obtain ⟨es, clock, hb, hs, he⟩ := h.ex
  have hlt := (Array.getElem?_eq_some_iff.1 hb).1
  have ow : ∀ o, Only b w (setBlock w b o) := fun o => ⟨rfl, rfl, rfl, by simp [setBlock], fun i _ hn => by simp only [setBlock, Array.getElem?_setIfInBounds, if_neg (Ne.symm hn)]⟩
  have at_b : ∀ o, (setBlock w b o).heap[b]? = some o := fun o => by simp [setBlock, hlt]
  have hall : ∀ p ∈ delK l x, ok p.1 := fun p hp => h.all p (List.mem_filter.1 hp).1
  rcases run_find K x hx w l es.toList h.all he with ⟨h1, h2⟩ | ⟨j, u, h1, h2⟩
  · refine ⟨setBlock w b (.map es clock), ?_, ⟨⟨es, clock, at_b _, hs, by rw [del_none h2]; exact he⟩, hall⟩, ow _, by simp [setBlock]⟩
    simp [Builtin.delete_, run_underlying ht, MapKept.run_getObj_map hb, K.kind.check x hx, h1, MapKept.run_setObj_map _ hb, Result.andThen, setBlock]
  · have hjl : j < es.size := by
      have e1 := congrArg List.length he
      rw [List.length_map, List.length_map] at e1
      have := (List.getElem?_eq_some_iff.1 h2).1
      simpa [← e1] using this
    have hsub : (es.eraseIdxIfInBounds j).toList = es.toList.eraseIdx j := by
      unfold Array.eraseIdxIfInBounds
      rw [dif_pos hjl]
      simp
    refine ⟨setBlock w b (.map (es.eraseIdxIfInBounds j) clock), ?_, ⟨⟨_, _, at_b _, stamped_erase hs j, ?_⟩, hall⟩, ow _, by simp [setBlock]⟩
    · simp [Builtin.delete_, run_underlying ht, MapKept.run_getObj_map hb, K.kind.check x hx, h1, MapKept.run_setObj_map _ hb, Result.andThen, setBlock]
    · rw [hsub, ← erase_at hn h2, map_erase, he, map_erase]
/-- 'len(m)'. -/
theorem KMap.len (h : KMap w b V U ok l) {t e : TypeId} (ht : P.underlying t = some (.map kt e)) (ty : TypeId) : (Builtin.len_ #[t] ty #[.map (some b)]).run P w = .ok (.int .i64 (l.length : Int)) w := by
  obtain ⟨es, clock, hb, _, he⟩ := h.ex
  have hs : es.size = l.length := by have := congrArg List.length he; simpa using this
  simp [Builtin.len_, run_underlying ht, MapKept.run_getObj_map hb, goInt, hs]
structure KIter (w : World) (b r : Nat) (V : α → Value) (U : β → Value) (ok : α → Prop) (l : List (α × β)) (D : α → Prop) (cnt : Nat) : Prop where
  ex : ∃ es clock since seen c0, w.heap[b]? = some (.map es clock) ∧ Stamped es clock ∧ es.toList.map (fun e => (e.key, e.val)) = (l.map fun p => (V p.1, U p.2)) ∧ w.heap[r]? = some (.mapIter (some b) since seen c0) ∧ (∀ x ∈ es.toList, x.born < since) ∧ since ≤ c0 ∧ since ≤ clock ∧
    (leftOf es seen).size = cnt ∧ ∀ x ∈ es.toList, seen.contains x.born = true → ∀ k, x.key = V k → D k
  all : ∀ p ∈ l, ok p.1
variable {D : α → Prop} {cnt : Nat}
theorem KIter.kmap (h : KIter w b r V U ok l D cnt) : KMap w b V U ok l := by
  obtain ⟨es, clock, since, seen, c0, hb, hs, E, _⟩ := h.ex
  exact ⟨⟨es, clock, hb, hs, E⟩, h.all⟩
theorem KIter.lt (h : KIter w b r V U ok l D cnt) : r < w.heap.size := by
  obtain ⟨es, clock, since, seen, c0, _, _, _, hr, _⟩ := h.ex
  exact (Array.getElem?_eq_some_iff.1 hr).1
theorem KIter.old (h : KIter w b r V U ok l D cnt) (hb' : Below w.heap.size w w') : KIter w' b r V U ok l D cnt := by
  have h1 := h.kmap.lt
  have h2 := h.lt
  obtain ⟨es, clock, since, seen, c0, hb, hs, E, hr, rest⟩ := h.ex
  exact ⟨⟨es, clock, since, seen, c0, (hb'.block b h1).trans hb, hs, E, (hb'.block r h2).trans hr, rest⟩, h.all⟩
theorem KIter.only {c : Nat} (h : KIter w b r V U ok l D cnt) (ho : Only c w w') (hb' : b ≠ c) (hr' : r ≠ c) : KIter w' b r V U ok l D cnt := by
  have h1 := h.kmap.lt
  have h2 := h.lt
  obtain ⟨es, clock, since, seen, c0, hb, hs, E, hr, rest⟩ := h.ex
  exact ⟨⟨es, clock, since, seen, c0, (ho.block b h1 hb').trans hb, hs, E, (ho.block r h2 hr').trans hr, rest⟩, h.all⟩
theorem KIter.left_eq (h : KIter w b r V U ok l D cnt) : w.rangeLeft b r = cnt := by
  obtain ⟨es, clock, since, seen, c0, hb, _, _, hr, _, _, _, hc, _⟩ := h.ex
  simp only [World.rangeLeft, hb, hr]
  exact hc
theorem KMap.range (h : KMap w b V U ok l) {t e : TypeId} (ht : P.underlying t = some (.map kt e)) (D : α → Prop) :
    ∃ w' cnt, (Instr.range t (.map (some b))).run P w = .ok (.pointer (some ⟨w.heap.size, 0, none⟩)) w' ∧ KIter w' b w.heap.size V U ok l D cnt ∧ New w w' := by
  have hlt := h.lt
  obtain ⟨es, clock, hb, hs, E⟩ := h.ex
  refine ⟨_, _, run_range_map w t kt e b es clock ht hb, ⟨⟨es, clock, clock, #[], clock, ((MapKept.heap_alloc w _).2 b hlt).trans hb, hs, E, (MapKept.heap_alloc w _).1, ((stamped_iff es clock).1 hs).1, Nat.le_refl _, Nat.le_refl _, rfl, ?_⟩, h.all⟩, new_alloc _ _⟩
  intro x hx hc
  simp at hc
theorem entry_of {es : Array MapEntry} (E : es.toList.map (fun e => (e.key, e.val)) = (l.map fun p => (V p.1, U p.2))) {x : MapEntry} (hx : x ∈ es.toList) : ∃ p ∈ l, x.key = V p.1 ∧ x.val = U p.2 := by
  have h1 : (x.key, x.val) ∈ es.toList.map (fun e => (e.key, e.val)) := List.mem_map.2 ⟨x, hx, rfl⟩
  rw [E] at h1
  obtain ⟨p, hp, e⟩ := List.mem_map.1 h1
  exact ⟨p, hp, (congrArg Prod.fst e).symm, (congrArg Prod.snd e).symm⟩
theorem entry_has {es : Array MapEntry} (E : es.toList.map (fun e => (e.key, e.val)) = (l.map fun p => (V p.1, U p.2))) {p : α × β} (hp : p ∈ l) : ∃ x ∈ es.toList, x.key = V p.1 := by
  have h1 : (V p.1, U p.2) ∈ l.map fun p => (V p.1, U p.2) := List.mem_map.2 ⟨p, hp, rfl⟩
  rw [← E] at h1
  obtain ⟨x, hx, e⟩ := List.mem_map.1 h1
  exact ⟨x, hx, congrArg Prod.fst e⟩
theorem KIter.next (h : KIter w b r V U ok l D cnt) (inj : ∀ x y, V x = V y → x = y) (ty : TypeId) :
    ((∀ p ∈ l, D p.1) ∧ (Instr.next (.pointer (some ⟨r, 0, none⟩)) false ty).run P w = .ok (.tuple #[.bool false]) w) ∨
    ∃ (p : α × β) (w' : World), p ∈ l ∧ (Instr.next (.pointer (some ⟨r, 0, none⟩)) false ty).run P w = .ok (.tuple #[.bool true, V p.1, U p.2]) w' ∧
      (D p.1 → ∃ cnt', KIter w' b r V U ok l D cnt' ∧ cnt' < cnt) ∧ KMap w' b V U ok l ∧ Only r w w' ∧ w'.heap.size = w.heap.size ∧ (Instr.entry (.pointer (some ⟨r, 0, none⟩))).run P w' = .ok (.tuple #[V p.1, U p.2]) w' := by
  have h1 := h.kmap.lt
  obtain ⟨es, clock, since, seen, c0, hb, hs, E, hr, hold, hsc, hsk, rfl, hD⟩ := h.ex
  have hst := (stamped_iff es clock).1 hs
  rcases run_next_at (P := P) w ty r b since c0 seen es clock hr hb hold hsc with ⟨h0, hrun⟩ | ⟨e, he, w1, hal, hrun⟩
  · refine Or.inl ⟨fun p hp => ?_, hrun⟩
    obtain ⟨x, hx, hkey⟩ := entry_has E hp
    exact hD x hx (all_seen es seen h0 x hx) p.1 hkey
  · have hml := mem_left he
    obtain ⟨p, hp, g1, g3⟩ := entry_of E hml.1
    rw [g1, g3] at hrun
    have hne : b ≠ r := by
      rintro rfl
      rw [hb] at hr
      cases hr
    have hrl := (Array.getElem?_eq_some_iff.1 hr).1
    have hb1 : w1.heap[b]? = some (.map es clock) := by rcases hal with rfl | rfl <;> exact hb
    have hs1 : w1.heap.size = w.heap.size := by rcases hal with rfl | rfl <;> rfl
    have hb2 : (setBlock w1 r (.mapIter (some b) since (seen.push e.born) clock)).heap[b]? = some (.map es clock) := by
      simp only [setBlock, Array.getElem?_setIfInBounds, if_neg (Ne.symm hne)]; exact hb1
    have hr2 : (setBlock w1 r (.mapIter (some b) since (seen.push e.born) clock)).heap[r]? = some (.mapIter (some b) since (seen.push e.born) clock) := by
      simp [setBlock, hs1, hrl]
    refine Or.inr ⟨p, _, hp, hrun, fun hk => ⟨_, ⟨⟨es, clock, since, seen.push e.born, clock, hb2, hs, E, hr2, hold, hsk, hsk, rfl, ?_⟩, h.all⟩, left_shrinks es seen e he⟩, ⟨⟨es, clock, hb2, hs, E⟩, h.all⟩, ?_, by simp [setBlock, hs1], ?_⟩
    · intro x hx hc k' hk'
      rw [Array.contains_push] at hc
      rcases Bool.or_eq_true_iff.1 hc with hc | hc
      · exact hD x hx hc k' hk'
      · have heq : x.born = e.born := by simpa using hc
        have hxe : x = e := born_inj hst.2.1 hx hml.1 heq
        subst hxe
        rw [inj _ _ (hk'.symm.trans g1)]
        exact hk
    · refine ⟨?_, ?_, ?_, by simp [setBlock, hs1], fun i hi hn => ?_⟩
      · rcases hal with rfl | rfl <;> rfl
      · rcases hal with rfl | rfl <;> rfl
      · rcases hal with rfl | rfl <;> rfl
      · simp only [setBlock, Array.getElem?_setIfInBounds, if_neg (Ne.symm hn)]
        rcases hal with rfl | rfl <;> rfl
    · have := run_entry_at (P := P) _ r b since seen es clock e hr2 hb2 hml.1 hst.2.1
      rw [g1, g3] at this
      exact this
end
section
variable {P : Program} {ops : Array Oper} {rest : List Oper} {o : Oper} {a : Act} {w : World} {Q : Exit → Act → World → Prop}
variable {α β : Type} [DecidableEq α] {b r : Nat} {V : α → Value} {U : β → Value} {ok : α → Prop} {l : List (α × β)} {kt : TypeId}
theorem run_op_lookupK (t : TypeId) (x y : Operand) (c : Bool) (ho : o.op = .lookup t x y c) (hx : a.eval x = .map (some b)) (k : α) (hk : ok k) (hy : a.eval y = V k) (h : KMap w b V U ok l) (K : Keys P kt V ok) {e : TypeId} (ht : P.underlying t = some (.map kt e))
    (z : Value) (hz : (zeroValue e).run P w = .ok z w) : (execOp a.eval o).run P w = .ok (.value (if c then .tuple #[((look l k).map U).getD z, .bool (look l k).isSome] else ((look l k).map U).getD z)) w := by
  unfold execOp
  simp only [ho, hx, hy, Sem.run_bind, h.lookup K ht hz k hk c, Result.andThen_ok, Sem.run_pure]
theorem run_op_lenK (t : TypeId) (x : Operand) (ho : o.op = .call { callee := .builtin .len, args := #[x], argTypes := #[t] }) (hx : a.eval x = .map (some b)) (h : KMap w b V U ok l) {e : TypeId} (ht : P.underlying t = some (.map kt e)) :
    (execOp a.eval o).run P w = .ok (.value (.int .i64 (l.length : Int))) w := by
  unfold execOp
  simp [ho, resolve, invoke, builtin, hx, h.len ht o.type, Result.andThen]
theorem run_op_updateK (t : TypeId) (x y v : Operand) (ho : o.op = .mapUpdate t x y v) (hx : a.eval x = .map (some b)) (k : α) (hk : ok k) (hy : a.eval y = V k) (u : β) (hv : a.eval v = U u) (h : KMap w b V U ok l) (K : Keys P kt V ok) {e : TypeId} (ht : P.underlying t = some (.map kt e)) :
    ∃ w', (execOp a.eval o).run P w = .ok .skip w' ∧ KMap w' b V U ok (putK l k u) ∧ Only b w w' ∧ w'.heap.size = w.heap.size := by
  obtain ⟨w', hr, h1, h2, h3⟩ := h.store K ht k hk u
  refine ⟨w', ?_, h1, h2, h3⟩
  unfold execOp
  simp only [ho, hx, hy, hv, Sem.run_bind, hr, Result.andThen_ok, Sem.run_pure]
theorem run_op_deleteK (t : TypeId) (x y : Operand) (ho : o.op = .call { callee := .builtin .delete, args := #[x, y], argTypes := #[t, kt] }) (hx : a.eval x = .map (some b)) (k : α) (hk : ok k) (hy : a.eval y = V k) (h : KMap w b V U ok l) (K : Keys P kt V ok) {e : TypeId} (ht : P.underlying t = some (.map kt e)) :
    ∃ w', (execOp a.eval o).run P w = .ok (.value (.tuple #[])) w' ∧ KMap w' b V U ok (delK l k) ∧ Only b w w' ∧ w'.heap.size = w.heap.size := by
  obtain ⟨w', hr, h1, h2, h3⟩ := h.drop K ht o.type k hk
  refine ⟨w', ?_, h1, h2, h3⟩
  unfold execOp
  simp [ho, resolve, invoke, builtin, hx, hy, hr, Result.andThen]
theorem arm_lenK (hgd : o.guard = none) (t : TypeId) (x : Operand) (ho : o.op = .call { callee := .builtin .len, args := #[x], argTypes := #[t] }) (hx : a.eval x = .map (some b)) (hm : KMap w b V U ok l) {e : TypeId} (ht : P.underlying t = some (.map kt e))
    (h : wpList P ops Q rest (a.put o.dst (.int .i64 (l.length : Int))) w) : wpList P ops Q (o :: rest) a w := by
  refine wpList_plain hgd fun K' hK => ?_
  unfold Oper.wp
  rw [run_op_lenK t x ho hx hm ht]
  exact hK _ _ h
/-- 'make(map[K]V)'. -/
theorem arm_makeMapK (hgd : o.guard = none) (t : TypeId) (n : Option Operand) (ho : o.op = .makeMap t n) (hn : n = none) (V : α → Value) (U : β → Value) (ok : α → Prop)
    (h : ∀ b w2, Hid (b = w.heap.size) → KMap w2 b V U ok [] → New w w2 → wpList P ops Q rest (a.put o.dst (.map (some b))) w2) : wpList P ops Q (o :: rest) a w := by
  subst hn
  refine wpList_plain hgd fun K hK => ?_
  unfold Oper.wp execOp
  simp only [ho, Option.map_none, Sem.run_bind, run_makeMap, Result.andThen_ok, Sem.run_pure]
  exact hK _ _ (h _ _ rfl (kMap_made w V U ok) (new_alloc _ _))
theorem o_updateK {i : Nat} {X : Act → World → Prop} (hi : ops[i]? = some o) (hd : o.dst = none) (hg : Region.wanted o (yielded ops a.tmps) = true) (t : TypeId) (x y v : Operand) (ho : o.op = .mapUpdate t x y v) (hx : a.eval x = .map (some b)) (k : α) (hk : ok k) (hy : a.eval y = V k) (u : β) (hv : a.eval v = U u) (h : KMap w b V U ok l) (K : Keys P kt V ok) {e : TypeId} (ht : P.underlying t = some (.map kt e))
    (hX : ∀ w', KMap w' b V U ok (putK l k u) → Only b w w' → Hid (w'.heap.size = w.heap.size) → X a w') : wpOp P ops Q i X a w := by
  obtain ⟨w', hr, h1, h2, h3⟩ := run_op_updateK t x y v ho hx k hk hy u hv h K ht
  exact o_skip hi hd hg hr (hX w' h1 h2 h3)
end
theorem same_list (n : Nat) : ∀ xs : List Nat, ((u8s xs).zip (u8s xs)).all (fun (x, y) => Instr.sameBits n x y) = true
  | [] => rfl
  | x :: xs => by
    show (((Value.int .u8 (x : Int)) :: u8s xs).zip ((Value.int .u8 (x : Int)) :: u8s xs)).all _ = true
    rw [List.zip_cons_cons, List.all_cons, same_list n xs, Bool.and_true]
    cases n <;> simp [Instr.sameBits]
theorem stays_bytes (P : Program) (xs : List Nat) (w : World) : (Instr.keyThatStays (.agg (u8s xs).toArray) (.agg (u8s xs).toArray)).run P w = .ok (.agg (u8s xs).toArray) w := by
  have h : Instr.sameBits 10000 (.agg (u8s xs).toArray) (.agg (u8s xs).toArray) = true := by
    show ((u8s xs).toArray.size == (u8s xs).toArray.size && ((u8s xs).toArray.toList.zip (u8s xs).toArray.toList).all fun (x, y) => Instr.sameBits 9999 x y) = true
    rw [beq_self_eq_true, Bool.true_and]
    exact same_list 9999 xs
  unfold Instr.keyThatStays
  rw [if_pos h]
  rfl
end Go.Proofs.YtnjmocobncncdaaGreatDoor.Km
