/-
  What is kept, by rising keys, over lists: what is laid, what is given up, what stays; where none is pinned the greatest stay, in whatever order they came. No program: v = a key's value, d = a digest.
-/
import Derived.Test.YtnjmocobncncdaaDoorMemAll
namespace Go.Proofs.YtnjmocobncncdaaDoor.So
set_option linter.unusedVariables false
set_option linter.unusedSimpArgs false
set_option linter.unusedSectionVars false

section
variable {α δ : Type} [DecidableEq δ] (v : α → Nat) (d : α → δ)
/-- By rising keys. -/
def Rise (L : List α) : Prop := L.Pairwise fun a b => v a < v b
/-- Among the others, by its key. -/
def ins (x : α) : List α → List α
  | [] => [x]
  | y :: L => if v y < v x then y :: ins x L else x :: y :: L
def has (h : δ) (L : List α) : Prop := ∃ y ∈ L, d y = h
/-- One is given up: the first one but the pinned one. -/
def out (pin : Option δ) (L : List α) : Nat := if pin = (L.map d)[0]? then 1 else 0
def less (r : Nat) (pin : Option δ) (L : List α) : List α × Option α := if L.length ≤ r then (L, none) else (L.eraseIdx (out d pin L), L[out d pin L]?)
end
section
variable {α δ : Type} [DecidableEq δ] {v : α → Nat} {d : α → δ}
theorem ins_len (x : α) : ∀ L : List α, (ins v x L).length = L.length + 1
  | [] => rfl
  | y :: L => by
    unfold ins
    split
    · rw [List.length_cons, ins_len x L, List.length_cons]
    · rfl
theorem ins_mem {x z : α} : ∀ {L : List α}, z ∈ ins v x L ↔ z = x ∨ z ∈ L
  | [] => by simp [ins]
  | y :: L => by
    unfold ins
    split
    · rw [List.mem_cons, ins_mem (L := L), List.mem_cons]
      exact ⟨fun h => by rcases h with h | h | h; exact .inr (.inl h); exact .inl h; exact .inr (.inr h), fun h => by rcases h with h | h | h; exact .inr (.inl h); exact .inl h; exact .inr (.inr h)⟩
    · rw [List.mem_cons]
theorem ins_rise {x : α} : ∀ {L : List α}, Rise v L → (∀ y ∈ L, v y ≠ v x) → Rise v (ins v x L)
  | [], _, _ => List.pairwise_singleton ..
  | y :: L, h, hn => by
    have h1 : ∀ z ∈ L, v y < v z := fun z hz => List.rel_of_pairwise_cons h hz
    have h2 : Rise v L := h.of_cons
    have hy := hn y (by simp)
    unfold ins
    split
    · rename_i hlt
      refine List.pairwise_cons.2 ⟨fun z hz => ?_, ins_rise h2 fun z hz => hn z (by simp [hz])⟩
      rcases ins_mem.1 hz with rfl | hz
      · exact hlt
      · exact h1 z hz
    · rename_i hge
      refine List.pairwise_cons.2 ⟨fun z hz => ?_, h⟩
      rcases List.mem_cons.1 hz with rfl | hz
      · omega
      · have := h1 z hz; omega
/-- Rising; digests once; no more than there is room for; the pinned one is kept. -/
structure SOk (v : α → Nat) (d : α → δ) (r : Nat) (pin : Option δ) (L : List α) : Prop where
  up : Rise v L
  dg : L.Pairwise fun a b => d a ≠ d b
  len : L.length ≤ r
  two : 2 ≤ r
  pin : ∀ p, pin = some p → has d p L
theorem s_nil {r : Nat} (h : 2 ≤ r) : SOk v d r none [] := ⟨List.Pairwise.nil, List.Pairwise.nil, Nat.zero_le _, h, fun p h => by cases h⟩
theorem dg_ins {x : α} : ∀ {L : List α}, (L.Pairwise fun a b => d a ≠ d b) → ¬ has d (d x) L → (ins v x L).Pairwise fun a b => d a ≠ d b
  | [], _, _ => List.pairwise_singleton ..
  | y :: L, h, hn => by
    have h1 : ∀ z ∈ L, d y ≠ d z := fun z hz => List.rel_of_pairwise_cons h hz
    have hyx : d y ≠ d x := fun e => hn ⟨y, by simp, e⟩
    have hn' : ¬ has d (d x) L := fun ⟨z, hz, e⟩ => hn ⟨z, by simp [hz], e⟩
    unfold ins
    split
    · refine List.pairwise_cons.2 ⟨fun z hz => ?_, dg_ins h.of_cons hn'⟩
      rcases ins_mem.1 hz with rfl | hz
      · exact hyx
      · exact h1 z hz
    · refine List.pairwise_cons.2 ⟨fun z hz e => ?_, h⟩
      exact hn ⟨z, hz, e.symm⟩
/-- Laid, with room or without: rising yet, digests once. -/
structure SLaid (v : α → Nat) (d : α → δ) (r : Nat) (pin : Option δ) (L : List α) : Prop where
  up : Rise v L
  dg : L.Pairwise fun a b => d a ≠ d b
  len : L.length ≤ r + 1
  two : 2 ≤ r
  pin : ∀ p, pin = some p → has d p L
theorem SOk.laid {r : Nat} {pin : Option δ} {L : List α} (k : SOk v d r pin L) : SLaid v d r pin L := ⟨k.up, k.dg, by have := k.len; omega, k.two, k.pin⟩
theorem laid_pin {r : Nat} {pin : Option δ} {L : List α} (k : SLaid v d r pin L) {h : δ} (hh : has d h L) : SLaid v d r (some h) L := ⟨k.up, k.dg, k.len, k.two, fun p hp => by cases hp; exact hh⟩
theorem out_le (pin : Option δ) (L : List α) : out d pin L ≤ 1 := by unfold out; split <;> omega
theorem less_room {r : Nat} {pin : Option δ} {L : List α} (h : L.length ≤ r) : less d r pin L = (L, none) := if_pos h
theorem out_lt {r : Nat} {pin : Option δ} {L : List α} (k : SLaid v d r pin L) (h : ¬ L.length ≤ r) : out d pin L < L.length := by
  have := out_le (d := d) pin L
  have := k.two
  omega
theorem less_full {r : Nat} {pin : Option δ} {L : List α} (k : SLaid v d r pin L) (h : ¬ L.length ≤ r) : less d r pin L = (L.eraseIdx (out d pin L), some (L[out d pin L]'(out_lt k h))) := by
  unfold less
  rw [if_neg h, List.getElem?_eq_getElem (out_lt k h)]
/-- The one that is given up isn't the pinned one. -/
theorem out_pin {r : Nat} {pin : Option δ} {L : List α} (k : SLaid v d r pin L) (h : ¬ L.length ≤ r) : pin ≠ some (d (L[out d pin L]'(out_lt k h))) := by
  have hl : 2 < L.length := by have := k.two; omega
  have e0 : (L.map d)[0]? = some (d L[0]) := by rw [List.getElem?_eq_getElem (by rw [List.length_map]; omega), List.getElem_map]
  intro e
  by_cases hp : pin = some (d L[0])
  · have ho : out d pin L = 1 := by unfold out; rw [e0, if_pos hp]
    simp only [ho] at e
    exact List.pairwise_iff_getElem.1 k.dg 0 1 (by omega) (by omega) (by omega) (Option.some.inj (hp.symm.trans e))
  · have ho : out d pin L = 0 := by unfold out; rw [e0, if_neg hp]
    simp only [ho] at e
    exact hp e
theorem mem_erase {L : List α} {i : Nat} (hi : i < L.length) {z : α} (hz : z ∈ L) : z = L[i] ∨ z ∈ L.eraseIdx i := by
  obtain ⟨j, hj, rfl⟩ := List.mem_iff_getElem.1 hz
  by_cases e : j = i
  · subst e; exact .inl rfl
  · exact .inr (List.mem_eraseIdx_iff_getElem.2 ⟨j, hj, e, rfl⟩)
theorem not_erase {L : List α} (hd : L.Pairwise fun a b => d a ≠ d b) {i : Nat} (hi : i < L.length) : ¬ has d (d L[i]) (L.eraseIdx i) := by
  rintro ⟨z, hz, e⟩
  obtain ⟨j, hj, hne, rfl⟩ := List.mem_eraseIdx_iff_getElem.1 hz
  rcases Nat.lt_or_gt_of_ne hne with q | q
  · exact List.pairwise_iff_getElem.1 hd j i hj hi q e
  · exact List.pairwise_iff_getElem.1 hd i j hi hj q e.symm
/-- What is kept, when one was given up where there was no room. -/
theorem less_ok {r : Nat} {pin : Option δ} {L : List α} (k : SLaid v d r pin L) : SOk v d r pin (less d r pin L).1 := by
  by_cases h : L.length ≤ r
  · rw [less_room h]
    exact ⟨k.up, k.dg, h, k.two, k.pin⟩
  · have ho := out_lt k h
    have hl := k.len
    rw [less_full k h]
    refine ⟨k.up.sublist (List.eraseIdx_sublist ..), k.dg.sublist (List.eraseIdx_sublist ..), ?_, k.two, fun p hp => ?_⟩
    · show (L.eraseIdx (out d pin L)).length ≤ r
      rw [List.length_eraseIdx, if_pos ho]; omega
    · obtain ⟨z, hz, e⟩ := k.pin p hp
      rcases mem_erase ho hz with q | q
      · exact absurd (hp.trans (congrArg some (e.symm.trans (congrArg d q)))) (out_pin k h)
      · exact ⟨z, q, e⟩
/-- The one that was given up isn't kept. -/
theorem less_gone {r : Nat} {pin : Option δ} {L : List α} (k : SLaid v d r pin L) {g : α} (hg : (less d r pin L).2 = some g) : ¬ has d (d g) (less d r pin L).1 ∧ g ∈ L ∧ pin ≠ some (d g) := by
  by_cases h : L.length ≤ r
  · rw [less_room h] at hg; cases hg
  · rw [less_full k h] at hg ⊢
    obtain rfl := Option.some.inj hg
    exact ⟨not_erase k.dg (out_lt k h), List.getElem_mem _, out_pin k h⟩
/-- All others are. -/
theorem less_stay {r : Nat} {pin : Option δ} {L : List α} (k : SLaid v d r pin L) {h : δ} (hh : has d h L) : has d h (less d r pin L).1 ↔ ¬ ∃ g, (less d r pin L).2 = some g ∧ d g = h := by
  by_cases hl : L.length ≤ r
  · rw [less_room hl]
    exact ⟨fun _ ⟨g, q, _⟩ => (nomatch q), fun _ => hh⟩
  · rw [less_full k hl]
    constructor
    · rintro q ⟨g, hg, e⟩
      obtain rfl := Option.some.inj hg
      exact not_erase k.dg (out_lt k hl) (e ▸ q)
    · intro q
      obtain ⟨z, hz, e⟩ := hh
      rcases mem_erase (out_lt k hl) hz with w | w
      · exact absurd ⟨_, rfl, by rw [← w, e]⟩ q
      · exact ⟨z, w, e⟩
end
end Go.Proofs.YtnjmocobncncdaaDoor.So
