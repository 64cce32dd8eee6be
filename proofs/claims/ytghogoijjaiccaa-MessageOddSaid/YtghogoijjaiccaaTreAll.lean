import Derived.Test.YtghogoijjaiccaaAccAll
import Derived.Test.YtghogoijjaiccaaMemAll
import Derived.Maps.Keyed
import Derived.Maps.RangeRun
import Derived.Maps.RangeWalk
import Derived.Test.YtghogoijjaiccaaEpoAll
import Derived.Test.YtghogoijjaiccaaTagAll
import Derived.Test.YtghogoijjaiccaaAccRefAll
import Derived.LoopTactic
import Derived.Test.YtghogoijjaiccaaCmp
/-
  A tree of accounts over functions and lists: nodes, the root, paths; a path leads to the root; what a node hangs on. No program.
-/
namespace Go.Proofs.Ytghogoijjaiccaa.Tr
open Go.Proofs.Ytghogoijjaiccaa.Bt Go.Proofs.Ytghogoijjaiccaa.Ac
open Go.Proofs.Ytghogoijjaiccaa.Tg (tagD)
open Go.Proofs.Ytghogoijjaiccaa.Ep (H32)
set_option linter.unusedVariables false
set_option linter.unusedSimpArgs false

/-- The name 'node'. -/
def nameN : ByteArray := ⟨#[110, 111, 100, 101]⟩
/-- Each place's account. -/
abbrev Tree := Nat → Option Acct
def leafD (t : Tree) (i : Nat) : List Nat := match t i with
  | some a => digA a
  | none => digE
def joinD (h : Nat) (l r : List Nat) : List Nat := tagD nameN [[h], l, r]
def nodeD (t : Tree) : Nat → Nat → List Nat
  | 0, i => leafD t i
  | h + 1, i => joinD (h + 1) (nodeD t h (2 * i)) (nodeD t h (2 * i + 1))
/-- The node beside. -/
def sib (i : Nat) : Nat := if i % 2 = 0 then i + 1 else i - 1
def besD (t : Tree) (p h : Nat) : List Nat := nodeD t h (sib (p / 2 ^ h))
end Go.Proofs.Ytghogoijjaiccaa.Tr

/-
  The trees of layer 15's awake: without accounts, and with one at place 5; their roots, which aren't the same: digests that the kernel reckons. No program.
-/
namespace Go.Proofs.Ytghogoijjaiccaa.Tr
open Go.Proofs.Ytghogoijjaiccaa.Bt Go.Proofs.Ytghogoijjaiccaa.Ac
open Go.Proofs.Ytghogoijjaiccaa.Tg (tagD)
open Go.Proofs.Ytghogoijjaiccaa.Ep (H32)
set_option linter.unusedVariables false
set_option linter.unusedSimpArgs false

/-- The digest of a node without accounts. -/
def bareD : Nat → List Nat
  | 0 => digE
  | h + 1 => joinD (h + 1) (bareD h) (bareD h)
def lE : List Nat := [29, 80, 10, 234, 55, 60, 6, 13, 11, 38, 141, 169, 210, 137, 43, 134, 89, 81, 9, 92, 70, 8, 128, 113, 126, 130, 89, 219, 104, 210, 148, 223]
def lA : List Nat := [159, 162, 29, 136, 115, 128, 167, 63, 243, 150, 150, 216, 61, 14, 105, 65, 129, 73, 110, 80, 92, 8, 122, 91, 182, 201, 183, 44, 108, 107, 156, 181]
end Go.Proofs.Ytghogoijjaiccaa.Tr

/-
  Maps keyed by int, block by block: what stands at each place ('IMap'), and what a look-up, a store, a delete, the length and a range over it do. Over whatever program.
-/
namespace Go.Proofs.Ytghogoijjaiccaa.Im
open Go.RowKit Go.MapKept Go.Proofs.Ytghogoijjaiccaa.Mem
open Go.Maps (Keyed int_keyed keyOf_int_mk)
open Go.ChangeMaps (setBlock)
set_option linter.unusedVariables false
set_option linter.unusedSimpArgs false

section
variable {α : Type} {P : Program}
/-- A number that an int can be. -/
abbrev Is64 (p : Int) : Prop := (Lit.int .i64 p).wf = true
/-- What stands at a place that may be far off. -/
def atI (m : Nat → Option α) (p : Int) : Option α := if 0 ≤ p then m p.toNat else none
def setM (m : Nat → Option α) (k : Nat) (o : Option α) : Nat → Option α := fun i => if i = k then o else m i
def delI (m : Nat → Option α) (p : Int) : Nat → Option α := fun i => if (i : Int) = p then none else m i
theorem atI_nat (m : Nat → Option α) (k : Nat) : atI m (k : Int) = m k := by simp [atI]
theorem atI_some {m : Nat → Option α} {p : Int} {a : α} (h : atI m p = some a) : ∃ k : Nat, p = (k : Int) ∧ m k = some a := by
  unfold atI at h
  split at h
  · rename_i hp
    exact ⟨p.toNat, by omega, h⟩
  · cases h
/-- The entries hold just what stands at the places. -/
structure Ents (V : α → Value) (es : Array MapEntry) (m : Nat → Option α) : Prop where
  of : ∀ x ∈ es.toList, ∃ (k : Nat) (a : α), x.key = .int .i64 (k : Int) ∧ Is64 (k : Int) ∧ x.val = V a ∧ m k = some a
  has : ∀ (k : Nat) (a : α), m k = some a → ∃ x ∈ es.toList, x.key = .int .i64 (k : Int)
structure IMap (w : World) (b : Nat) (V : α → Value) (m : Nat → Option α) : Prop where
  ex : ∃ es clock, w.heap[b]? = some (.map es clock) ∧ Stamped es clock ∧ Ents V es m
variable {w w' : World} {b r : Nat} {V : α → Value} {m : Nat → Option α}
theorem IMap.lt (h : IMap w b V m) : b < w.heap.size := by
  obtain ⟨es, clock, hb, _⟩ := h.ex
  exact (Array.getElem?_eq_some_iff.1 hb).1
theorem IMap.of_block (h : IMap w b V m) (e : w'.heap[b]? = w.heap[b]?) : IMap w' b V m := by
  obtain ⟨es, clock, hb, he⟩ := h.ex
  exact ⟨es, clock, e.trans hb, he⟩
theorem IMap.below {n : Nat} (h : IMap w b V m) (hb : Below n w w') (hn : b < n) : IMap w' b V m := h.of_block (hb.block b hn)
theorem IMap.old (h : IMap w b V m) (hb : Below w.heap.size w w') : IMap w' b V m := h.below hb h.lt
theorem IMap.only {c : Nat} (h : IMap w b V m) (ho : Only c w w') (hn : b ≠ c) : IMap w' b V m := h.of_block (ho.block b h.lt hn)
theorem IMap.congr {m' : Nat → Option α} (h : IMap w b V m) (e : m = m') : IMap w b V m' := e ▸ h
theorem IMap.row {t : TypeId} {cs : List Value} {c : Nat} (h : IMap w b V m) (g : Row w c t cs) : b ≠ c := by
  rintro rfl
  obtain ⟨es, clock, hb, _⟩ := h.ex
  have := hb.symm.trans (show w.heap[b]? = _ from g)
  cases this
theorem Ents.keys {es : Array MapEntry} (E : Ents V es m) {kt : TypeId} (hk : P.underlying kt = some (.int .i64)) : ∀ x ∈ es.toList, ∃ l, keyOf P kt x.key = some l := fun x hx => by
  obtain ⟨k, a, hkey, hw, _⟩ := E.of x hx
  rw [hkey]
  exact ⟨_, keyOf_int_mk hk hw⟩
theorem key_nat {k j : Nat} (h : Value.int .i64 (k : Int) = Value.int .i64 (j : Int)) : k = j := by
  simp only [Value.int.injEq, true_and] at h
  omega
theorem Ents.no {es : Array MapEntry} (E : Ents V es m) {p : Int} (h : ∀ x ∈ es.toList, x.key ≠ .int .i64 p) : atI m p = none := by
  cases hc : atI m p with
  | none => rfl
  | some a =>
    obtain ⟨k, rfl, hk⟩ := atI_some hc
    obtain ⟨x, hx, hkey⟩ := E.has k a hk
    exact absurd hkey (h x hx)
theorem other_key' {es : Array MapEntry} {clock : Nat} (hs : Stamped es clock) {i j : Nat} {x y : MapEntry} (hx : es.toList[i]? = some x) (hy : es.toList[j]? = some y) (hn : i ≠ j) : x.key ≠ y.key := by
  have hp := ((stamped_iff es clock).1 hs).2.2
  rw [List.pairwise_iff_getElem] at hp
  obtain ⟨hi, rfl⟩ := List.getElem?_eq_some_iff.1 hx
  obtain ⟨hj, rfl⟩ := List.getElem?_eq_some_iff.1 hy
  rcases Nat.lt_or_gt_of_ne hn with g | g
  · exact hp i j hi hj g
  · exact (hp j i hj hi g).symm
theorem setM_here (m : Nat → Option α) (k : Nat) (o : Option α) : setM m k o k = o := if_pos rfl
theorem setM_other {m : Nat → Option α} {k i : Nat} {o : Option α} (h : i ≠ k) : setM m k o i = m i := if_neg h
/-- 'm[k] = v'. -/
theorem IMap.store (h : IMap w b V m) {t kt e : TypeId} (hk : P.underlying kt = some (.int .i64)) (ht : P.underlying t = some (.map kt e)) (k : Nat) (hw : Is64 (k : Int)) (a : α) :
    ∃ w', (Instr.mapUpdate t (.map (some b)) (.int .i64 (k : Int)) (V a)).run P w = .ok () w' ∧ IMap w' b V (setM m k (some a)) ∧ Only b w w' ∧ w'.heap.size = w.heap.size := by
  obtain ⟨es, clock, hb, hs, E⟩ := h.ex
  have K := int_keyed hk
  have hkey := keyOf_int_mk hk hw
  have hlt := (Array.getElem?_eq_some_iff.1 hb).1
  have ow : ∀ o, Only b w (setBlock w b o) := fun o => ⟨rfl, rfl, rfl, by simp [setBlock], fun i _ hn => by simp only [setBlock, Array.getElem?_setIfInBounds, if_neg (Ne.symm hn)]⟩
  have at_b : ∀ o, (setBlock w b o).heap[b]? = some o := fun o => by simp [setBlock, hlt]
  rcases K.find w hkey es.toList (E.keys hk) with ⟨h1, h2⟩ | ⟨j, e0, h1, h2, h3⟩
  · refine ⟨setBlock w b (.map (es.push ⟨.int .i64 (k : Int), V a, clock⟩) (clock + 1)), ?_, ⟨_, _, at_b _, stamped_push hs h2, ⟨?_, ?_⟩⟩, ow _, by simp [setBlock]⟩
    · simp [Instr.mapUpdate, run_underlying ht, MapKept.run_getObj_map hb, K.check w false hkey, h1, MapKept.run_setObj_map _ hb, Result.andThen, setBlock]
    · intro x hx
      simp only [Array.toList_push, List.mem_append, List.mem_singleton] at hx
      rcases hx with hx | rfl
      · obtain ⟨k', a', g1, g2, g3, g4⟩ := E.of x hx
        exact ⟨k', a', g1, g2, g3, by rw [setM_other (fun ee => h2 x hx (by rw [g1, ee]))]; exact g4⟩
      · exact ⟨k, a, rfl, hw, rfl, setM_here _ _ _⟩
    · intro k' a' hm
      simp only [Array.toList_push, List.mem_append, List.mem_singleton]
      by_cases he : k' = k
      · subst he
        exact ⟨_, Or.inr rfl, rfl⟩
      · rw [setM_other he] at hm
        obtain ⟨x, hx, g⟩ := E.has k' a' hm
        exact ⟨x, Or.inl hx, g⟩
  · have hj : es[j]? = some e0 := by simpa using h2
    have hjl : j < es.toList.length := (List.getElem?_eq_some_iff.1 h2).1
    have hkeyf : ∀ e', es[j]? = some e' → ({ e' with key := .int .i64 (k : Int), val := V a } : MapEntry).key = e'.key := fun e' he' => by rw [hj] at he'; cases he'; exact h3.symm
    have hlist : (es.modify j (fun e' => { e' with key := .int .i64 (k : Int), val := V a })).toList = es.toList.set j { e0 with key := .int .i64 (k : Int), val := V a } := by rw [Array.toList_modify, ChangeMaps.modify_eq_set _ _ _ _ h2]
    have who : ∀ x ∈ es.toList.set j { e0 with key := .int .i64 (k : Int), val := V a }, x = { e0 with key := .int .i64 (k : Int), val := V a } ∨ (x ∈ es.toList ∧ x.key ≠ .int .i64 (k : Int)) := by
      intro x hx
      obtain ⟨i, hi, ex⟩ := List.getElem_of_mem hx
      rw [List.getElem_set] at ex
      split at ex
      · exact Or.inl ex.symm
      · rename_i hne
        have hi' : i < es.toList.length := by simpa using hi
        refine Or.inr ⟨ex ▸ List.getElem_mem hi', ?_⟩
        rw [← h3]
        exact other_key' hs (by rw [List.getElem?_eq_getElem hi', ex]) h2 (fun e1 => hne e1.symm)
    refine ⟨setBlock w b (.map (es.modify j (fun e' => { e' with key := .int .i64 (k : Int), val := V a })) clock), ?_, ⟨_, _, at_b _, stamped_modify hs _ _ (fun _ _ => rfl) (fun e' _ he' => hkeyf e' he'), ⟨?_, ?_⟩⟩, ow _, by simp [setBlock]⟩
    · simp [Instr.mapUpdate, run_underlying ht, MapKept.run_getObj_map hb, K.check w false hkey, h1, hj, h3, K.stays w hkey, MapKept.run_setObj_map _ hb, Result.andThen, setBlock]
    · intro x hx
      rw [hlist] at hx
      rcases who x hx with rfl | ⟨hx', hne⟩
      · exact ⟨k, a, rfl, hw, rfl, setM_here _ _ _⟩
      · obtain ⟨k', a', g1, g2, g3, g4⟩ := E.of x hx'
        exact ⟨k', a', g1, g2, g3, by rw [setM_other (fun ee => hne (by rw [g1, ee]))]; exact g4⟩
    · intro k' a' hm
      rw [hlist]
      by_cases he : k' = k
      · subst he
        exact ⟨{ e0 with key := .int .i64 (k' : Int), val := V a }, List.mem_iff_getElem.2 ⟨j, by simpa using hjl, by simp⟩, rfl⟩
      · rw [setM_other he] at hm
        obtain ⟨x, hx, g⟩ := E.has k' a' hm
        obtain ⟨i, hi, ex⟩ := List.getElem_of_mem hx
        refine ⟨x, List.mem_iff_getElem.2 ⟨i, by simpa using hi, ?_⟩, g⟩
        rw [List.getElem_set, if_neg, ex]
        rintro rfl
        have : x = e0 := by rw [List.getElem?_eq_getElem hi, ex] at h2; exact Option.some.inj h2
        subst this
        exact he (key_nat (g.symm.trans h3))
/-- 'delete(m, k)'. -/
theorem IMap.drop (h : IMap w b V m) {t kt e : TypeId} (hk : P.underlying kt = some (.int .i64)) (ht : P.underlying t = some (.map kt e)) (ty : TypeId) (p : Int) (hp : Is64 p) :
    ∃ w', (Builtin.delete_ #[t, kt] ty #[.map (some b), .int .i64 p]).run P w = .ok (.tuple #[]) w' ∧ IMap w' b V (delI m p) ∧ Only b w w' ∧ w'.heap.size = w.heap.size := by
  obtain ⟨es, clock, hb, hs, E⟩ := h.ex
  have K := int_keyed hk
  have hkey := keyOf_int_mk hk hp
  have hlt := (Array.getElem?_eq_some_iff.1 hb).1
  have ow : ∀ o, Only b w (setBlock w b o) := fun o => ⟨rfl, rfl, rfl, by simp [setBlock], fun i _ hn => by simp only [setBlock, Array.getElem?_setIfInBounds, if_neg (Ne.symm hn)]⟩
  have at_b : ∀ o, (setBlock w b o).heap[b]? = some o := fun o => by simp [setBlock, hlt]
  rcases K.find w hkey es.toList (E.keys hk) with ⟨h1, h2⟩ | ⟨j, e0, h1, h2, h3⟩
  · refine ⟨setBlock w b (.map es clock), ?_, ⟨es, clock, at_b _, hs, ?_⟩, ow _, by simp [setBlock]⟩
    · simp [Builtin.delete_, run_underlying ht, MapKept.run_getObj_map hb, K.check w _ hkey, h1, MapKept.run_setObj_map _ hb, Result.andThen, setBlock]
    · have : delI m p = m := by
        funext i
        unfold delI
        split
        · rename_i hi
          have := E.no h2
          rw [← hi, atI_nat] at this
          exact this.symm
        · rfl
      rw [this]
      exact E
  · have hjl : j < es.toList.length := (List.getElem?_eq_some_iff.1 h2).1
    have hjs : j < es.size := by simpa using hjl
    have hsub : (es.eraseIdxIfInBounds j).toList = es.toList.eraseIdx j := by
      unfold Array.eraseIdxIfInBounds
      rw [dif_pos hjs]
      simp
    refine ⟨setBlock w b (.map (es.eraseIdxIfInBounds j) clock), ?_, ⟨_, _, at_b _, stamped_erase hs j, ⟨?_, ?_⟩⟩, ow _, by simp [setBlock]⟩
    · simp [Builtin.delete_, run_underlying ht, MapKept.run_getObj_map hb, K.check w _ hkey, h1, MapKept.run_setObj_map _ hb, Result.andThen, setBlock]
    · intro x hx
      rw [hsub] at hx
      obtain ⟨i, hne, hi⟩ := List.mem_eraseIdx_iff_getElem?.1 hx
      obtain ⟨k', a', g1, g2, g3, g4⟩ := E.of x (List.mem_of_getElem? hi)
      refine ⟨k', a', g1, g2, g3, ?_⟩
      unfold delI
      rw [if_neg]
      · exact g4
      · intro ee
        exact other_key' hs hi h2 hne (by rw [g1, h3, ee])
    · intro k' a' hm
      unfold delI at hm
      split at hm
      · cases hm
      · rename_i he
        obtain ⟨x, hx, g⟩ := E.has k' a' hm
        refine ⟨x, ?_, g⟩
        rw [hsub]
        obtain ⟨i, hi⟩ := List.mem_iff_getElem?.1 hx
        refine List.mem_eraseIdx_iff_getElem?.2 ⟨i, ?_, hi⟩
        rintro rfl
        rw [hi] at h2
        cases h2
        have := g.symm.trans h3
        simp only [Value.int.injEq, true_and] at this
        exact he this
/-- How many of the first n places have something. -/
def cntM (m : Nat → Option α) : Nat → Nat
  | 0 => 0
  | n + 1 => cntM m n + if (m n).isSome then 1 else 0
theorem cntM_filter (m : Nat → Option α) : ∀ n, ((List.range n).filter fun k => (m k).isSome).length = cntM m n
  | 0 => rfl
  | n + 1 => by
    rw [List.range_succ, List.filter_append, List.length_append, cntM_filter m n, show cntM m (n + 1) = cntM m n + if (m n).isSome then 1 else 0 from rfl]
    cases hc : (m n).isSome <;> simp [hc]
theorem Ents.size {es : Array MapEntry} {clock : Nat} (E : Ents V es m) (hs : Stamped es clock) (n : Nat) (hn : ∀ k a, m k = some a → k < n) : es.size = cntM m n := by
  rw [← cntM_filter]
  have hp : (es.toList.map (·.key)).Perm (((List.range n).filter fun k => (m k).isSome).map fun (k : Nat) => Value.int .i64 (k : Int)) := by
    refine (List.perm_ext_iff_of_nodup ?_ ?_).2 fun v => ?_
    · rw [List.Nodup, List.pairwise_map]
      exact ((stamped_iff es clock).1 hs).2.2
    · rw [List.Nodup, List.pairwise_map]
      refine (List.nodup_range.filter _).imp fun {x y} hxy e => hxy (key_nat e)
    · simp only [List.mem_map, List.mem_filter, List.mem_range]
      constructor
      · rintro ⟨x, hx, rfl⟩
        obtain ⟨k, a, g1, _, _, g4⟩ := E.of x hx
        exact ⟨k, ⟨hn k a g4, by rw [g4]; rfl⟩, g1.symm⟩
      · rintro ⟨k, ⟨_, hk⟩, rfl⟩
        obtain ⟨a, ha⟩ := Option.isSome_iff_exists.1 hk
        obtain ⟨x, hx, g⟩ := E.has k a ha
        exact ⟨x, hx, g⟩
  have := hp.length_eq
  simpa using this
/-- 'len(m)'. -/
theorem IMap.len (h : IMap w b V m) {t kt e : TypeId} (ht : P.underlying t = some (.map kt e)) (ty : TypeId) (n : Nat) (hn : ∀ k a, m k = some a → k < n) :
    (Builtin.len_ #[t] ty #[.map (some b)]).run P w = .ok (.int .i64 (cntM m n : Int)) w := by
  obtain ⟨es, clock, hb, hs, E⟩ := h.ex
  simp [Builtin.len_, run_underlying ht, MapKept.run_getObj_map hb, goInt, E.size hs n hn]
/-- Block r ranges over the map of block b: of what has come, D holds; cnt are still to come. -/
structure Iter (w : World) (b r : Nat) (V : α → Value) (m : Nat → Option α) (D : Nat → Prop) (cnt : Nat) : Prop where
  ex : ∃ es clock since seen c0, w.heap[b]? = some (.map es clock) ∧ Stamped es clock ∧ Ents V es m ∧ w.heap[r]? = some (.mapIter (some b) since seen c0) ∧ (∀ x ∈ es.toList, x.born < since) ∧ since ≤ c0 ∧ since ≤ clock ∧
    (leftOf es seen).size = cnt ∧ ∀ x ∈ es.toList, seen.contains x.born = true → ∀ k : Nat, x.key = .int .i64 (k : Int) → D k
variable {D : Nat → Prop} {cnt : Nat}
theorem Iter.imap (h : Iter w b r V m D cnt) : IMap w b V m := by
  obtain ⟨es, clock, since, seen, c0, hb, hs, E, _⟩ := h.ex
  exact ⟨es, clock, hb, hs, E⟩
theorem Iter.lt (h : Iter w b r V m D cnt) : r < w.heap.size := by
  obtain ⟨es, clock, since, seen, c0, _, _, _, hr, _⟩ := h.ex
  exact (Array.getElem?_eq_some_iff.1 hr).1
theorem Iter.old (h : Iter w b r V m D cnt) (hb' : Below w.heap.size w w') : Iter w' b r V m D cnt := by
  have h1 := h.imap.lt
  have h2 := h.lt
  obtain ⟨es, clock, since, seen, c0, hb, hs, E, hr, rest⟩ := h.ex
  exact ⟨es, clock, since, seen, c0, (hb'.block b h1).trans hb, hs, E, (hb'.block r h2).trans hr, rest⟩
theorem IMap.range (h : IMap w b V m) {t kt e : TypeId} (ht : P.underlying t = some (.map kt e)) (D : Nat → Prop) :
    ∃ w' cnt, (Instr.range t (.map (some b))).run P w = .ok (.pointer (some ⟨w.heap.size, 0, none⟩)) w' ∧ Iter w' b w.heap.size V m D cnt ∧ New w w' := by
  have hlt := h.lt
  obtain ⟨es, clock, hb, hs, E⟩ := h.ex
  refine ⟨_, _, run_range_map w t kt e b es clock ht hb, ⟨es, clock, clock, #[], clock, ((MapKept.heap_alloc w _).2 b hlt).trans hb, hs, E, (MapKept.heap_alloc w _).1, ((stamped_iff es clock).1 hs).1, Nat.le_refl _, Nat.le_refl _, rfl, ?_⟩, new_alloc _ _⟩
  intro x hx hc
  simp at hc
theorem Iter.next (h : Iter w b r V m D cnt) (ty : TypeId) :
    ((∀ k a, m k = some a → D k) ∧ (Instr.next (.pointer (some ⟨r, 0, none⟩)) false ty).run P w = .ok (.tuple #[.bool false]) w) ∨
    ∃ (k : Nat) (a : α) (w' : World), m k = some a ∧ Is64 (k : Int) ∧ (Instr.next (.pointer (some ⟨r, 0, none⟩)) false ty).run P w = .ok (.tuple #[.bool true, .int .i64 (k : Int), V a]) w' ∧
      (D k → ∃ cnt', Iter w' b r V m D cnt' ∧ cnt' < cnt) ∧ IMap w' b V m ∧ Only r w w' ∧ w'.heap.size = w.heap.size ∧ (Instr.entry (.pointer (some ⟨r, 0, none⟩))).run P w' = .ok (.tuple #[.int .i64 (k : Int), V a]) w' := by
  have h1 := h.imap.lt
  obtain ⟨es, clock, since, seen, c0, hb, hs, E, hr, hold, hsc, hsk, rfl, hD⟩ := h.ex
  have hst := (stamped_iff es clock).1 hs
  rcases run_next_at (P := P) w ty r b since c0 seen es clock hr hb hold hsc with ⟨h0, hrun⟩ | ⟨e, he, w1, hal, hrun⟩
  · refine Or.inl ⟨fun k a hm => ?_, hrun⟩
    obtain ⟨x, hx, hkey⟩ := E.has k a hm
    exact hD x hx (all_seen es seen h0 x hx) k hkey
  · have hml := mem_left he
    obtain ⟨k, a, g1, g2, g3, g4⟩ := E.of e hml.1
    rw [g1, g3] at hrun
    have hne : b ≠ r := by
      rintro rfl
      rw [hb] at hr
      cases hr
    have hrl := (Array.getElem?_eq_some_iff.1 hr).1
    have hb1 : w1.heap[b]? = some (.map es clock) := by rcases hal with rfl | rfl <;> exact hb
    have hs1 : w1.heap.size = w.heap.size := by rcases hal with rfl | rfl <;> rfl
    have hb2 : (setBlock w1 r (.mapIter (some b) since (seen.push e.born) clock)).heap[b]? = some (.map es clock) := by
      simp only [setBlock, Array.getElem?_setIfInBounds, if_neg (Ne.symm hne)]; exact hb1
    have hr2 : (setBlock w1 r (.mapIter (some b) since (seen.push e.born) clock)).heap[r]? = some (.mapIter (some b) since (seen.push e.born) clock) := by
      simp [setBlock, hs1, hrl]
    refine Or.inr ⟨k, a, _, g4, g2, hrun, fun hk => ⟨_, ⟨es, clock, since, seen.push e.born, clock, hb2, hs, E, hr2, hold, hsk, hsk, rfl, ?_⟩, left_shrinks es seen e he⟩, ⟨es, clock, hb2, hs, E⟩, ?_, by simp [setBlock, hs1], ?_⟩
    · intro x hx hc k' hk'
      rw [Array.contains_push] at hc
      rcases Bool.or_eq_true_iff.1 hc with hc | hc
      · exact hD x hx hc k' hk'
      · have heq : x.born = e.born := by simpa using hc
        have hxe : x = e := born_inj hst.2.1 hx hml.1 heq
        subst hxe
        obtain rfl := key_nat (hk'.symm.trans g1)
        exact hk
    · refine ⟨?_, ?_, ?_, by simp [setBlock, hs1], fun i hi hn => ?_⟩
      · rcases hal with rfl | rfl <;> rfl
      · rcases hal with rfl | rfl <;> rfl
      · rcases hal with rfl | rfl <;> rfl
      · simp only [setBlock, Array.getElem?_setIfInBounds, if_neg (Ne.symm hn)]
        rcases hal with rfl | rfl <;> rfl
    · have := run_entry_at (P := P) _ r b since seen es clock e hr2 hb2 hml.1 hst.2.1
      rw [g1, g3] at this
      exact this
end
section
variable {P : Program} {ops : Array Oper} {rest : List Oper} {o : Oper} {a : Act} {w : World} {Q : Exit → Act → World → Prop}
variable {α : Type} {b r : Nat} {V : α → Value} {m : Nat → Option α}
end
end Go.Proofs.Ytghogoijjaiccaa.Im

/-
  Package tree's tree and the document's, as cells and maps: what stands where, what a write leaves; paths; '==' of paths. Over this seat's translation.
-/
namespace Go.Proofs.Ytghogoijjaiccaa.Tr
open Go.ChangeShapes Go.WideShapes Go.ChangeAt Go.RowKit Go.Proofs.Ytghogoijjaiccaa.Mem Go.Proofs.Ytghogoijjaiccaa.Bt Go.Proofs.Ytghogoijjaiccaa.Ac Go.Proofs.Ytghogoijjaiccaa.Im
open Go.Proofs.Ytghogoijjaiccaa.Ep (H32 zh zh_ok Has h_len szH zH fitH allH u8s_int)
set_option linter.unusedVariables false
set_option linter.unusedSimpArgs false

def dgC (L : List (List Nat)) : List Value := L.flatMap u8s
theorem dgC_cons (x : List Nat) (L : List (List Nat)) : dgC (x :: L) = u8s x ++ dgC L := List.flatMap_cons
theorem dgC_len : ∀ (L : List (List Nat)), (∀ x ∈ L, H32 x) → (dgC L).length = L.length * 32
  | [], _ => rfl
  | x :: L, h => by
    rw [dgC_cons, List.length_append, h_len (h x (by simp)), dgC_len L (fun y hy => h y (by simp [hy])), List.length_cons]
    omega
theorem dgC_ones : ∀ L : List (List Nat), OneCells (dgC L)
  | [] => fun v hv => by cases hv
  | x :: L => by rw [dgC_cons]; exact Ep.one_app (u8s_one _) (dgC_ones L)
theorem dg_has : ∀ (L : List (List Nat)) (pre : List Value) (i : Nat) (d : List Nat), (∀ x ∈ L, H32 x) → L[i]? = some d → Has (pre ++ dgC L) (pre.length + 32 * i) (u8s d)
  | [], pre, i, d, _, hi => by simp at hi
  | x :: L, pre, 0, d, h, hi => by
    simp only [List.getElem?_cons_zero, Option.some.injEq] at hi
    subst hi
    have := (Has.refl (pre ++ dgC (x :: L))).right pre.length rfl
    rw [dgC_cons, Nat.zero_add] at this
    rw [dgC_cons]
    exact this.left
  | x :: L, pre, i + 1, d, h, hi => by
    have := dg_has L (pre ++ u8s x) i d (fun y hy => h y (by simp [hy])) (by simpa using hi)
    rw [List.append_assoc, List.length_append, h_len (h x (by simp))] at this
    rw [dgC_cons, show pre.length + 32 * (i + 1) = pre.length + 32 + 32 * i by omega]
    exact this
theorem dg_lay : ∀ (L : List (List Nat)) (pre : List Value) (i : Nat) (d : List Nat), (∀ x ∈ L, H32 x) → H32 d → i < L.length → lay (pre ++ dgC L) (pre.length + 32 * i) (u8s d) = pre ++ dgC (L.set i d)
  | [], pre, i, d, _, _, hi => by simp at hi
  | x :: L, pre, 0, d, h, hd, _ => by
    rw [dgC_cons, List.set_cons_zero, dgC_cons, lay_skip _ _ _ (32 * 0) rfl, lay_head _ _ _ (by rw [h_len hd, h_len (h x (by simp))])]
  | x :: L, pre, i + 1, d, h, hd, hi => by
    have := dg_lay L (pre ++ u8s x) i d (fun y hy => h y (by simp [hy])) hd (by simpa using hi)
    rw [List.append_assoc, List.length_append, h_len (h x (by simp))] at this
    rw [dgC_cons, List.set_cons_succ, dgC_cons, show pre.length + 32 * (i + 1) = pre.length + 32 + 32 * i by omega, this, List.append_assoc]
theorem dgC_inj : ∀ (L M : List (List Nat)), (∀ x ∈ L, H32 x) → (∀ x ∈ M, H32 x) → L.length = M.length → dgC L = dgC M → L = M
  | [], [], _, _, _, _ => rfl
  | [], y :: M, _, _, h, _ => by simp at h
  | x :: L, [], _, _, h, _ => by simp at h
  | x :: L, y :: M, hl, hm, h, e => by
    rw [dgC_cons, dgC_cons] at e
    obtain ⟨e1, e2⟩ := List.append_inj e (by rw [h_len (hl x (by simp)), h_len (hm y (by simp))])
    rw [u8s_same e1, dgC_inj L M (fun z hz => hl z (by simp [hz])) (fun z hz => hm z (by simp [hz])) (by simpa using h) e2]
where
  u8s_same {a b : List Nat} (h : u8s a = u8s b) : a = b := by
    unfold u8s at h
    refine List.map_inj_right (fun x y e => ?_) |>.1 h
    simp only [Value.int.injEq, true_and] at e
    omega
theorem all_set {L : List (List Nat)} (h : ∀ x ∈ L, H32 x) {d : List Nat} (hd : H32 d) (i : Nat) : ∀ x ∈ L.set i d, H32 x := fun x hx => by
  rcases List.mem_or_eq_of_mem_set hx with g | rfl
  · exact h x g
  · exact hd
def z5 : List (List Nat) := [zh, zh, zh, zh, zh]
def b5 : List (List Nat) := [bareD 0, bareD 1, bareD 2, bareD 3, bareD 4]
theorem z5_ok : ∀ x ∈ z5, H32 x := by
  intro x hx
  simp only [z5, List.mem_cons, List.not_mem_nil, or_false, or_self] at hx
  exact hx ▸ zh_ok
section
variable {w w' : World} {B mb : Nat} {t : Tree}
end
/-- What Set and Drop leave. -/
def SetOk (p : Int) (a : Acct) : Prop := (0 ≤ p ∧ p < 16) ∧ NRt a.nm
instance (p : Int) (a : Acct) : Decidable (SetOk p a) := inferInstanceAs (Decidable (_ ∧ _))
def z4 : List (List Nat) := [zh, zh, zh, zh]
theorem z4_ok : ∀ x ∈ z4, H32 x := fun x hx => z5_ok x (by simp only [z4, z5, List.mem_cons, List.not_mem_nil, or_false, or_self] at hx ⊢; exact hx)
theorem dg4 {L : List (List Nat)} (h : ∀ x ∈ L, H32 x) (hl : L.length = 4) : (dgC L).length = 128 := by rw [dgC_len L h, hl]
theorem sz_path {L : List (List Nat)} (h : ∀ x ∈ L, H32 x) (hl : L.length = 4) : Sized Try.prog 40 (dgC L).length := by rw [dg4 h hl]; exact ⟨.array 4 24, by kernel_rfl, rfl, by kernel_rfl⟩
theorem sz_rpath {L : List (List Nat)} (h : ∀ x ∈ L, H32 x) (hl : L.length = 4) : Sized Try.prog 39 (dgC L).length := by rw [dg4 h hl]; exact ⟨.array 4 24, by kernel_rfl, rfl, by kernel_rfl⟩
theorem fitP {L : List (List Nat)} (h : ∀ x ∈ L, H32 x) (hl : L.length = 4) : 0 + (dgC L).length ≤ (dgC z4).length := by rw [dg4 h hl, dg4 z4_ok rfl]; omega
theorem allP {L : List (List Nat)} (h : ∀ x ∈ L, H32 x) (hl : L.length = 4) : lay (dgC z4) 0 (dgC L) = dgC L := lay_all _ _ (by rw [dg4 h hl, dg4 z4_ok rfl])
set_option maxRecDepth 100000 in
theorem fit_dg4 {ty : TypeId} (hu : Try.prog.underlying ty = some (.array 4 24)) {L : List (List Nat)} (h : ∀ x ∈ L, H32 x) (hl : L.length = 4) : Fit Try.prog 3 ty (dgC L) := by
  have c1 : Try.prog.cellsOf 24 = 32 := by kernel_rfl
  refine fit_array hu (by kernel_rfl) (by rw [c1, dg4 h hl]) fun i hi => ?_
  obtain ⟨d, hd⟩ : ∃ d, L[i]? = some d := ⟨_, List.getElem?_eq_getElem (by omega)⟩
  have hh := dg_has L [] i d h hd
  have kd := h d (List.mem_of_getElem? hd)
  have := hh.chunk (h_len kd)
  simp only [List.nil_append, List.length_nil, Nat.zero_add] at this
  rw [c1, Nat.mul_comm, this]
  exact Ep.fit_hash 0 kd
section
variable {o : Oper} {a : Act}
set_option maxRecDepth 100000 in
theorem run_op_neqP {L M : List (List Nat)} (hL : ∀ x ∈ L, H32 x) (hM : ∀ x ∈ M, H32 x) (lL : L.length = 4) (lM : M.length = 4) (ty : TypeId) (hu : Try.prog.underlying ty = some (.array 4 24)) (hg : Try.prog.eqGuardType Try.prog.depth ty = false) (p q : Operand) (t' : TypeId) (ho : o.op = .binOp .neq ty p q t') (hy : a.eval p = .agg (dgC L).toArray) (hz : a.eval q = .agg (dgC M).toArray) (b : Bool) (hb : b = true ↔ L = M) (w : World) : (execOp a.eval o).run Try.prog w = .ok (.value (.bool (!b))) w :=
  run_op_neqF ty p q t' ho 3 (by omega) (.array 4 24) hu rfl hg (dgC L) (dgC M) hy hz (fit_dg4 hu hL lL) (fit_dg4 hu hM lM) b (hb.trans ⟨congrArg dgC, dgC_inj L M hL hM (by rw [lL, lM])⟩) w
end
theorem run_op_arr {P : Program} {o : Oper} {a : Act} (t : TypeId) (x ix : Operand) (ho : o.op = .indexAddr t x ix) (n : Nat) (e : TypeId) (s : Nat) (hu : P.underlying t = some (.array n e)) (hse : (P.info? e).map (·.size) = some s)
    (g off : Nat) (hx : a.eval x = .pointer (some ⟨g, off, none⟩)) (kk : IntKind) (i : Int) (hi : a.eval ix = .int kk i) (k : Nat) (hik : i = (k : Int)) (hk : k < n) (q : Nat) (hqq : off + k * s = q) (w : World) : (execOp a.eval o).run P w = .ok (.value (.pointer (some ⟨g, q, none⟩))) w := by
  subst hik hqq
  cases hq : P.info? e with
  | none => simp [hq] at hse
  | some ie =>
    have hs : ie.size = s := by simpa [hq] using hse
    have h3 : (⟨g, off, none⟩ : Addr).add (k * s) = ⟨g, off + k * s, none⟩ := Addr.add_mid g off (k * s)
    unfold execOp
    simp [ho, hx, hi, Instr.indexAt, asIntOf, run_underlying hu, sizeOf, typeInfo, hq, hs, hk, h3, Instr.sureAddr]
section
variable {o : Oper} {a : Act}
set_option maxRecDepth 100000 in
/-- '==' and '!=' of two digests. -/
theorem run_op_eqlD {x y : List Nat} (k : H32 x) (j : H32 y) (p q : Operand) (t' : TypeId) (ho : o.op = .binOp .eql 24 p q t') (hy : a.eval p = .agg (u8s x).toArray) (hz : a.eval q = .agg (u8s y).toArray) (b : Bool) (hb : b = true ↔ x = y) (w : World) : (execOp a.eval o).run Try.prog w = .ok (.value (.bool b)) w :=
  run_op_eqlF 24 p q t' ho 2 (by omega) (.array 32 5) (by kernel_rfl) rfl (by kernel_rfl) (u8s x) (u8s y) hy hz (Ep.fit_hash 0 k) (Ep.fit_hash 0 j) b (hb.trans ⟨congrArg u8s, dgC_inj.u8s_same [] []⟩) w
/-- '==' and '!=' of two truths. -/
theorem run_eqlB (p q : Bool) (w : World) : (binOp .eql 4 (.bool p) (.bool q)).run Try.prog w = .ok (.bool (p == q)) w := by cases p <;> cases q <;> kernel_rfl
theorem run_neqB (p q : Bool) (w : World) : (binOp .neq 4 (.bool p) (.bool q)).run Try.prog w = .ok (.bool (!(p == q))) w := by cases p <;> cases q <;> kernel_rfl
theorem run_op_eqlBB (x y : Operand) (t' : TypeId) (ho : o.op = .binOp .eql 4 x y t') (p q : Bool) (hx : a.eval x = .bool p) (hy : a.eval y = .bool q) (r : Bool) (hr : (p == q) = r) (w : World) : (execOp a.eval o).run Try.prog w = .ok (.value (.bool r)) w := by
  subst hr
  unfold execOp
  simp [ho, hx, hy, eqGuard, run_eqlB]
theorem run_op_neqBB (x y : Operand) (t' : TypeId) (ho : o.op = .binOp .neq 4 x y t') (p q : Bool) (hx : a.eval x = .bool p) (hy : a.eval y = .bool q) (r : Bool) (hr : (!(p == q)) = r) (w : World) : (execOp a.eval o).run Try.prog w = .ok (.value (.bool r)) w := by
  subst hr
  unfold execOp
  simp [ho, hx, hy, eqGuard, run_neqB]
end
end Go.Proofs.Ytghogoijjaiccaa.Tr

/-
  The contracts of Join, package tree's and the document's. Over this seat's translation.
-/
namespace Go.Proofs.Ytghogoijjaiccaa.Tr
open Go.ChangeShapes Go.WideShapes Go.ChangeAt Go.RowKit Go.Proofs.Ytghogoijjaiccaa.Mem Go.Proofs.Ytghogoijjaiccaa.Bt Go.Proofs.Ytghogoijjaiccaa.Wi Go.Proofs.Ytghogoijjaiccaa.Sha Go.Proofs.Ytghogoijjaiccaa.Ac Go.Proofs.Ytghogoijjaiccaa.Im
open Go.Proofs.Ytghogoijjaiccaa.Tg (bytesOf bytesOf_length bytesOf_lt bytesOf_inj Rd Rd.below Parts tagD)
open Go.Proofs.Ytghogoijjaiccaa.Ep (H32 zh zh_ok Has h_len szH zH fitH allH)
set_option linter.unusedVariables false
set_option linter.unusedSimpArgs false

end Go.Proofs.Ytghogoijjaiccaa.Tr

/-
  The contracts of package tree's there and New. Over this seat's translation.
-/
namespace Go.Proofs.Ytghogoijjaiccaa.Tr
open Go.ChangeShapes Go.WideShapes Go.ChangeAt Go.RowKit Go.Proofs.Ytghogoijjaiccaa.Mem Go.Proofs.Ytghogoijjaiccaa.Bt Go.Proofs.Ytghogoijjaiccaa.Wi Go.Proofs.Ytghogoijjaiccaa.Sha Go.Proofs.Ytghogoijjaiccaa.Ac Go.Proofs.Ytghogoijjaiccaa.Im
open Go.Proofs.Ytghogoijjaiccaa.Tg (bytesOf bytesOf_length bytesOf_lt bytesOf_inj Rd Rd.below Parts tagD)
open Go.Proofs.Ytghogoijjaiccaa.Ep (H32 zh zh_ok Has h_len szH zH fitH allH)
set_option linter.unusedVariables false
set_option linter.unusedSimpArgs false

/-- The bare digests that are known behind so many rounds. -/
def bl : Nat → List (List Nat)
  | 0 => z5.set 0 (bareD 0)
  | k + 1 => (bl k).set (k + 1) (bareD (k + 1))
end Go.Proofs.Ytghogoijjaiccaa.Tr

/-
  The contracts of package tree's Set, Drop, Get and Len. Over this seat's translation.
-/
namespace Go.Proofs.Ytghogoijjaiccaa.Tr
open Go.ChangeShapes Go.WideShapes Go.ChangeAt Go.RowKit Go.Proofs.Ytghogoijjaiccaa.Mem Go.Proofs.Ytghogoijjaiccaa.Bt Go.Proofs.Ytghogoijjaiccaa.Wi Go.Proofs.Ytghogoijjaiccaa.Sha Go.Proofs.Ytghogoijjaiccaa.Ac Go.Proofs.Ytghogoijjaiccaa.Im
open Go.Proofs.Ytghogoijjaiccaa.Tg (bytesOf bytesOf_length bytesOf_lt bytesOf_inj Rd Rd.below Parts tagD)
open Go.Proofs.Ytghogoijjaiccaa.Ep (H32 zh zh_ok Has h_len szH zH fitH allH)
set_option linter.unusedVariables false
set_option linter.unusedSimpArgs false

end Go.Proofs.Ytghogoijjaiccaa.Tr

/-
  The contracts of package tree's empty and node. Over this seat's translation.
-/
namespace Go.Proofs.Ytghogoijjaiccaa.Tr
open Go.ChangeShapes Go.WideShapes Go.ChangeAt Go.RowKit Go.Proofs.Ytghogoijjaiccaa.Mem Go.Proofs.Ytghogoijjaiccaa.Bt Go.Proofs.Ytghogoijjaiccaa.Wi Go.Proofs.Ytghogoijjaiccaa.Sha Go.Proofs.Ytghogoijjaiccaa.Ac Go.Proofs.Ytghogoijjaiccaa.Im
open Go.Proofs.Ytghogoijjaiccaa.Tg (bytesOf bytesOf_length bytesOf_lt bytesOf_inj Rd Rd.below Parts tagD)
open Go.Proofs.Ytghogoijjaiccaa.Ep (H32 zh zh_ok Has h_len szH zH fitH allH)
set_option linter.unusedVariables false
set_option linter.unusedSimpArgs false

end Go.Proofs.Ytghogoijjaiccaa.Tr

/-
  The contracts of package tree's Root and Path. Over this seat's translation.
-/
namespace Go.Proofs.Ytghogoijjaiccaa.Tr
open Go.ChangeShapes Go.WideShapes Go.ChangeAt Go.RowKit Go.Proofs.Ytghogoijjaiccaa.Mem Go.Proofs.Ytghogoijjaiccaa.Bt Go.Proofs.Ytghogoijjaiccaa.Wi Go.Proofs.Ytghogoijjaiccaa.Sha Go.Proofs.Ytghogoijjaiccaa.Ac Go.Proofs.Ytghogoijjaiccaa.Im
open Go.Proofs.Ytghogoijjaiccaa.Tg (bytesOf bytesOf_length bytesOf_lt bytesOf_inj Rd Rd.below Parts tagD)
open Go.Proofs.Ytghogoijjaiccaa.Ep (H32 zh zh_ok Has h_len szH zH fitH allH)
set_option linter.unusedVariables false
set_option linter.unusedSimpArgs false

/-- A path that is known behind so many rounds. -/
def pl (t : Tree) (p : Nat) : Nat → List (List Nat)
  | 0 => z4
  | k + 1 => (pl t p k).set k (besD t p k)
theorem path_has {L : List (List Nat)} (h : ∀ x ∈ L, H32 x) {d : List Nat} {i : Nat} (hi : L[i]? = some d) : Has (dgC L) (32 * i) (u8s d) := by
  have := dg_has L [] i d h hi
  simpa using this
end Go.Proofs.Ytghogoijjaiccaa.Tr
