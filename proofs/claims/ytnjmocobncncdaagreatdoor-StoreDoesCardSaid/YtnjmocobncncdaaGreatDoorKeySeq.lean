/-
  A range over a map keyed by arrays or structs, for an iterator: what has come, each once, by its places; fenced. Over whatever program.
-/
import Derived.Test.YtnjmocobncncdaaGreatDoorKeyMap
import Derived.Sort.MapsRangeIn
import Derived.RangeFuncGives
namespace Go.Proofs.YtnjmocobncncdaaGreatDoor.Km
open Go.RowKit Go.MapKept Go.Proofs.YtnjmocobncncdaaGreatDoor.Mem Go.Proofs.YtnjmocobncncdaaGreatDoor.Bt
open Go.ChangeMaps (setBlock)
set_option linter.unusedVariables false
set_option linter.unusedSimpArgs false
set_option linter.unusedSectionVars false

section
variable {α β : Type} [DecidableEq α] {P : Program}
variable {w w' : World} {b r : Nat} {V : α → Value} {U : β → Value} {ok : α → Prop} {l : List (α × β)} {kt : TypeId}
/-- A range under way: what has come, by its places. -/
structure KSeq (w : World) (b r : Nat) (V : α → Value) (U : β → Value) (ok : α → Prop) (l : List (α × β)) (idx : List Nat) (cnt : Nat) : Prop where
  ex : ∃ es clock since seen c0, w.heap[b]? = some (.map es clock) ∧ Stamped es clock ∧ es.toList.map (fun e => (e.key, e.val)) = (l.map fun p => (V p.1, U p.2)) ∧ w.heap[r]? = some (.mapIter (some b) since seen c0) ∧ (∀ x ∈ es.toList, x.born < since) ∧ since ≤ c0 ∧ since ≤ clock ∧
    (leftOf es seen).size = cnt ∧ ∀ (i : Nat) (x : MapEntry), es[i]? = some x → (seen.contains x.born = true ↔ i ∈ idx)
  all : ∀ p ∈ l, ok p.1
  low : ∀ i ∈ idx, i < l.length
  once : idx.Nodup
theorem KSeq.kmap {idx : List Nat} {cnt : Nat} (h : KSeq w b r V U ok l idx cnt) : KMap w b V U ok l := by
  obtain ⟨es, clock, since, seen, c0, hb, hs, E, _⟩ := h.ex
  exact ⟨⟨es, clock, hb, hs, E⟩, h.all⟩
theorem KSeq.walk {idx : List Nat} {cnt : Nat} (h : KSeq w b r V U ok l idx cnt) : ∃ o : Obj, w.heap[r]? = some o ∧ o.isWalk = true := by
  obtain ⟨es, clock, since, seen, c0, _, _, _, hr, _⟩ := h.ex
  exact ⟨_, hr, rfl⟩
theorem KSeq.of_walks {idx : List Nat} {cnt : Nat} (h : KSeq w b r V U ok l idx cnt) (hk : KeepsWalks w w') : KSeq w' b r V U ok l idx cnt := by
  obtain ⟨es, clock, since, seen, c0, hb, hs, E, hr, rest⟩ := h.ex
  exact ⟨⟨es, clock, since, seen, c0, hk.same b _ hb rfl, hs, E, hk.same r _ hr rfl, rest⟩, h.all, h.low, h.once⟩
theorem KSeq.left_eq {idx : List Nat} {cnt : Nat} (h : KSeq w b r V U ok l idx cnt) : w.rangeLeft b r = cnt := by
  obtain ⟨es, clock, since, seen, c0, hb, _, _, hr, _, _, _, hc, _⟩ := h.ex
  simp only [World.rangeLeft, hb, hr]
  exact hc
theorem KMap.seq (h : KMap w b V U ok l) {t e : TypeId} (ht : P.underlying t = some (.map kt e)) :
    ∃ w' cnt, (Instr.range t (.map (some b))).run P w = .ok (.pointer (some ⟨w.heap.size, 0, none⟩)) w' ∧ KSeq w' b w.heap.size V U ok l [] cnt ∧ w.grownBy w' none ∧ w'.heap.size = w.heap.size + 1 := by
  have hlt := h.lt
  obtain ⟨es, clock, hb, hs, E⟩ := h.ex
  refine ⟨_, _, run_range_map w t kt e b es clock ht hb, ⟨⟨es, clock, clock, #[], clock, ((MapKept.heap_alloc w _).2 b hlt).trans hb, hs, E, (MapKept.heap_alloc w _).1, ((stamped_iff es clock).1 hs).1, Nat.le_refl _, Nat.le_refl _, rfl, ?_⟩, h.all, fun i hi => (nomatch hi), List.nodup_nil⟩, ⟨rfl, rfl, rfl, by simp, fun k hk _ => (MapKept.heap_alloc w _).2 k hk⟩, by simp⟩
  intro i x hx
  simp
theorem es_len {es : Array MapEntry} (E : es.toList.map (fun e => (e.key, e.val)) = (l.map fun p => (V p.1, U p.2))) : es.size = l.length := by
  have := congrArg List.length E
  simpa using this
theorem KSeq.next {idx : List Nat} {cnt : Nat} (h : KSeq w b r V U ok l idx cnt) (ty : TypeId) :
    ((∀ i, i < l.length → i ∈ idx) ∧ (Instr.next (.pointer (some ⟨r, 0, none⟩)) false ty).run P w = .ok (.tuple #[.bool false]) w) ∨
    ∃ (i : Nat) (p : α × β) (w' : World) (cnt' : Nat), l[i]? = some p ∧ i ∉ idx ∧ (Instr.next (.pointer (some ⟨r, 0, none⟩)) false ty).run P w = .ok (.tuple #[.bool true, V p.1, U p.2]) w' ∧
      KSeq w' b r V U ok l (idx ++ [i]) cnt' ∧ cnt' < cnt ∧ w.grownBy w' (some r) ∧ w'.heap.size = w.heap.size ∧ (Instr.entry (.pointer (some ⟨r, 0, none⟩))).run P w' = .ok (.tuple #[V p.1, U p.2]) w' := by
  obtain ⟨es, clock, since, seen, c0, hb, hs, E, hr, hold, hsc, hsk, rfl, hD⟩ := h.ex
  have hst := (stamped_iff es clock).1 hs
  have hlen := es_len E
  rcases run_next_at (P := P) w ty r b since c0 seen es clock hr hb hold hsc with ⟨h0, hrun⟩ | ⟨e, he, w1, hal, hrun⟩
  · refine Or.inl ⟨fun i hi => ?_, hrun⟩
    have hie : es[i]? = some es[i] := Array.getElem?_eq_getElem (by omega)
    exact (hD i _ hie).1 (all_seen es seen h0 _ (by simp))
  · have hml := mem_left he
    obtain ⟨i, hil, hie⟩ := List.mem_iff_getElem.1 hml.1
    have hi1 : es[i]? = some e := by rw [← hie]; simp
    have hin : i ∉ idx := fun q => by
      have := (hD i e hi1).2 q
      rw [hml.2] at this
      cases this
    have hil' : i < l.length := by simp at hil; omega
    have hent : (V l[i].1, U l[i].2) = (e.key, e.val) := by
      have h1 : (es.toList.map fun e => (e.key, e.val))[i]? = some (e.key, e.val) := by rw [List.getElem?_map, List.getElem?_eq_getElem hil, hie]; rfl
      rw [E, List.getElem?_map, List.getElem?_eq_getElem hil'] at h1
      simpa using h1
    have g1 : e.key = V l[i].1 := (congrArg Prod.fst hent).symm
    have g3 : e.val = U l[i].2 := (congrArg Prod.snd hent).symm
    rw [g1, g3] at hrun
    have hne : b ≠ r := by
      rintro rfl
      rw [hb] at hr
      cases hr
    have hrl := (Array.getElem?_eq_some_iff.1 hr).1
    have hb1 : w1.heap[b]? = some (.map es clock) := by rcases hal with rfl | rfl <;> exact hb
    have hs1 : w1.heap.size = w.heap.size := by rcases hal with rfl | rfl <;> rfl
    have hb2 : (setBlock w1 r (.mapIter (some b) since (seen.push e.born) clock)).heap[b]? = some (.map es clock) := by
      simp only [setBlock, Array.getElem?_setIfInBounds, if_neg (Ne.symm hne)]; exact hb1
    have hr2 : (setBlock w1 r (.mapIter (some b) since (seen.push e.born) clock)).heap[r]? = some (.mapIter (some b) since (seen.push e.born) clock) := by
      simp [setBlock, hs1, hrl]
    refine Or.inr ⟨i, l[i], _, _, List.getElem?_eq_getElem hil', hin, hrun, ⟨⟨es, clock, since, seen.push e.born, clock, hb2, hs, E, hr2, hold, hsk, hsk, rfl, ?_⟩, h.all, ?_, ?_⟩, left_shrinks es seen e he, ?_, by simp [setBlock, hs1], ?_⟩
    · intro j x hx
      rw [Array.contains_push, List.mem_append, List.mem_singleton, Bool.or_eq_true, hD j x hx]
      refine or_congr Iff.rfl ⟨fun hc => ?_, fun q => ?_⟩
      · have heq : x.born = e.born := by simpa using hc
        have hxm : x ∈ es.toList := by
          obtain ⟨h1, h2⟩ := Array.getElem?_eq_some_iff.1 hx
          rw [← h2]; simp
        obtain rfl := born_inj hst.2.1 hxm hml.1 heq
        have hnd : (es.toList.map (·.born)).Nodup := hst.2.1
        have e1 : (es.toList.map (·.born))[j]? = some x.born := by rw [List.getElem?_map, show es.toList[j]? = some x by simpa using hx]; rfl
        have e2 : (es.toList.map (·.born))[i]? = some x.born := by rw [List.getElem?_map, show es.toList[i]? = some x by simpa using hi1]; rfl
        exact (List.getElem?_inj (by rw [List.length_map]; exact (List.getElem?_eq_some_iff.1 (show es.toList[j]? = some x by simpa using hx)).1) hnd).1 (e1.trans e2.symm)
      · subst q
        rw [hi1] at hx
        obtain rfl := Option.some.inj hx
        simp
    · intro j hj
      rcases List.mem_append.1 hj with hj | hj
      · exact h.low j hj
      · rw [List.mem_singleton] at hj; omega
    · exact List.nodup_append.2 ⟨h.once, by simp, fun a ha c hc => by rw [List.mem_singleton] at hc; subst hc; rintro rfl; exact hin ha⟩
    · rcases hal with rfl | rfl <;> exact ⟨rfl, rfl, rfl, by simp [setBlock], fun k _ hk => by
        simp only [setBlock, Array.getElem?_setIfInBounds, if_neg (fun q : r = k => hk (by rw [q]))]
        try rfl⟩
    · have := run_entry_at (P := P) _ r b since seen es clock e hr2 hb2 hml.1 hst.2.1
      rw [g1, g3] at this
      exact this
/-- What stands at some places. -/
def pick (l : List (α × β)) (idx : List Nat) : List α := idx.filterMap fun i => l[i]?.map Prod.fst
theorem pick_one {idx : List Nat} {i : Nat} {p : α × β} (h : l[i]? = some p) : pick l (idx ++ [i]) = pick l idx ++ [p.1] := by
  unfold pick
  rw [List.filterMap_append]
  simp [h]
theorem pick_len {idx : List Nat} (h : ∀ i ∈ idx, i < l.length) : (pick l idx).length = idx.length := by
  unfold pick
  induction idx with
  | nil => rfl
  | cons i idx ih =>
    rw [List.filterMap_cons, List.getElem?_eq_getElem (h i (by simp))]
    simp only [Option.map_some, List.length_cons, ih fun j hj => h j (by simp [hj])]
theorem pick_range : ∀ l : List (α × β), pick l (List.range l.length) = l.map Prod.fst := fun l => by
  unfold pick
  induction l with
  | nil => rfl
  | cons p l ih =>
    rw [List.length_cons, List.range_succ_eq_map, List.filterMap_cons]
    simp only [List.getElem?_cons_zero, Option.map_some, List.map_cons, List.filterMap_map, Function.comp_def, List.getElem?_cons_succ]
    congr 1
theorem pick_perm {idx : List Nat} (low : ∀ i ∈ idx, i < l.length) (once : idx.Nodup) (h : ∀ i, i < l.length → i ∈ idx) : (pick l idx).Perm (l.map Prod.fst) := by
  rw [← pick_range l]
  unfold pick
  refine List.Perm.filterMap _ ((List.perm_ext_iff_of_nodup once List.nodup_range).2 fun i => ?_)
  rw [List.mem_range]
  exact ⟨low i, h i⟩
theorem nodup_le' : ∀ {L M : List Nat}, L.Nodup → (∀ x ∈ L, x ∈ M) → L.length ≤ M.length
  | [], M, _, _ => Nat.zero_le _
  | x :: L, M, hn, h => by
    obtain ⟨s, t, rfl⟩ := List.append_of_mem (h x (by simp))
    obtain ⟨h1, h2⟩ := List.nodup_cons.1 hn
    have := nodup_le' (M := s ++ t) h2 fun y hy => by
      rcases List.mem_append.1 (h y (by simp [hy])) with q | q
      · exact List.mem_append.2 (.inl q)
      · rcases List.mem_cons.1 q with rfl | q
        · exact absurd hy h1
        · exact List.mem_append.2 (.inr q)
    rw [List.length_append] at this
    rw [List.length_cons, List.length_append, List.length_cons]
    omega
theorem once_lt {idx : List Nat} {i : Nat} (low : ∀ i ∈ idx, i < l.length) (once : idx.Nodup) (hi : i < l.length) (hn : i ∉ idx) : idx.length < l.length := by
  have h1 : (i :: idx).Nodup := List.nodup_cons.2 ⟨hn, once⟩
  have h2 := nodup_le' h1 (M := List.range l.length) (fun j hj => by
    rw [List.mem_range]
    rcases List.mem_cons.1 hj with rfl | hj
    · exact hi
    · exact low j hj)
  rw [List.length_range, List.length_cons] at h2
  omega
end
section
variable {F : Fence} {n : Nat} {P : Program} {ops : Array Oper} {rest : List Oper} {o : Oper} {a : Act} {w : World} {Q : Exit → Act → World → Prop}
variable {α β : Type} [DecidableEq α] {b r : Nat} {V : α → Value} {U : β → Value} {ok : α → Prop} {l : List (α × β)} {kt : TypeId}
theorem inArm_range (hg : o.guard = none) (m : Operand) (t : TypeId) (hop : o.op = Op.range t m) (hm : a.eval m = .map (some b)) (h : KMap w b V U ok l) {e : TypeId} (ht : P.underlying t = some (.map kt e))
    (hK : ∀ w' cnt, KSeq w' b w.heap.size V U ok l [] cnt → w.grownBy w' none → w'.heap.size = w.heap.size + 1 → wpListIn F n P ops Q rest (a.put o.dst (.pointer (some ⟨w.heap.size, 0, none⟩))) w') : wpListIn F n P ops Q (o :: rest) a w := by
  refine wpListIn_plain hg fun K' hK' => ?_
  obtain ⟨w', cnt, hrun, r1, r2, r3⟩ := h.seq (P := P) ht
  unfold Oper.wpIn
  refine ⟨?_, ?_⟩
  · simp [Oper.about, hop]
  · rw [Oper.semAt_plain F _ _ (by rw [hop]; intro c hc'; cases hc')]
    simp [execOp, hop, hm, hrun, Result.andThen]
    exact hK' _ _ (hK w' cnt r1 r2 r3)
theorem inArm_next (hg : o.guard = none) (it : Operand) (hop : o.op = Op.next it false) (hit : a.eval it = .pointer (some ⟨r, 0, none⟩)) {idx : List Nat} {cnt : Nat} (h : KSeq w b r V U ok l idx cnt)
    (hDone : (∀ i, i < l.length → i ∈ idx) → wpListIn F n P ops Q rest (a.put o.dst (.tuple #[.bool false])) w)
    (hMore : ∀ (i : Nat) (p : α × β) (w' : World) (cnt' : Nat), l[i]? = some p → i ∉ idx → KSeq w' b r V U ok l (idx ++ [i]) cnt' → cnt' < cnt → w.grownBy w' (some r) → w'.heap.size = w.heap.size →
      (Instr.entry (.pointer (some ⟨r, 0, none⟩))).run P w' = .ok (.tuple #[V p.1, U p.2]) w' → wpListIn F n P ops Q rest (a.put o.dst (.tuple #[.bool true, V p.1, U p.2])) w') :
    wpListIn F n P ops Q (o :: rest) a w := by
  refine wpListIn_plain hg fun K' hK' => ?_
  unfold Oper.wpIn
  refine ⟨by simp [Oper.about, hop], ?_⟩
  rw [Oper.semAt_plain F _ _ (by rw [hop]; intro c hc'; cases hc')]
  rcases h.next (P := P) o.type with ⟨h0, hrun⟩ | ⟨i, p, w', cnt', g1, g2, hrun, g3, g4, g5, g6, g7⟩
  · simp [execOp, hop, hit, hrun, Result.andThen]
    exact hK' _ _ (hDone h0)
  · simp [execOp, hop, hit, hrun, Result.andThen]
    exact hK' _ _ (hMore i p w' cnt' g1 g2 g3 g4 g5 g6 g7)
end
end Go.Proofs.YtnjmocobncncdaaGreatDoor.Km
