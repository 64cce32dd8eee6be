/-
  What two orders of the same states leave in two stores (pure): the argument of layer 19's statement StoreOrder. Over this seat's translation.
-/
import Derived.Test.YtnjmocobncncdaaDoorStoClash
namespace Go.Proofs.YtnjmocobncncdaaDoor.So
open Go.Proofs.YtnjmocobncncdaaDoor.Sa (Sta digS)
open Go.Proofs.YtnjmocobncncdaaDoor.Od (Ky keyN keyN_ok kval)
set_option linter.unusedVariables false

def swL (l : List Sta) (i k : Nat) (a b : Sta) : List Sta := (l.set i b).set k a
theorem swL_len (l : List Sta) (i k : Nat) (a b : Sta) : (swL l i k a b).length = l.length := by unfold swL; rw [List.length_set, List.length_set]
theorem swL_mem {l : List Sta} {i k : Nat} {a b : Sta} (ha : l[i]? = some a) (hb : l[k]? = some b) {x : Sta} : x ∈ swL l i k a b ↔ x ∈ l := by
  obtain ⟨hi, rfl⟩ := List.getElem?_eq_some_iff.1 ha
  obtain ⟨hk, rfl⟩ := List.getElem?_eq_some_iff.1 hb
  exact (List.set_set_perm hi hk).mem_iff
theorem top_step {r : Nat} (hr : 1 ≤ r) {l : List Sta} (hno : NoC l) (kl : ∀ y ∈ l, y.Ok) {came L : List Sta} (hc : ∀ y ∈ came, y ∈ l) (k : TopS vK r came L) {x : Sta} (hx : x ∈ l) : TopS vK r (came ++ [x]) (putL r none x L).1 := by
  unfold putL
  by_cases h : hasB (digS x) L = true
  · rw [if_pos h]
    obtain ⟨y, hy, e⟩ := has_true.1 h
    obtain rfl := hno y (hc y (k.sub y hy)) x hx e
    exact top_there k hy
  · rw [if_neg h]
    exact top_put hr k fun y hy e => h (has_true.2 ⟨y, hy, vK_dig (kl x hx) (kl y (hc y (k.sub y hy))) e⟩)
theorem top_take {r : Nat} (hr : 1 ≤ r) {l m : List Sta} (hno : NoC l) (kl : ∀ y ∈ l, y.Ok) (hm : ∀ y ∈ m, y ∈ l) {j : Nat} {x : Sta} (hx : m[j]? = some x) {L : List Sta} (k : TopS vK r (m.take j) L) : TopS vK r (m.take (j + 1)) (putL r none x L).1 := by
  rw [take_last hx]
  exact top_step hr hno kl (fun y hy => hm y (List.mem_of_mem_take hy)) k (hm x (List.mem_of_getElem? hx))
theorem clash_no {l : List Sta} (h : ¬ ClashP l) : NoC l := fun x hx y hy e => Classical.byContradiction fun n => h ⟨x, hx, y, hy, n, e⟩
theorem top_ne {r : Nat} (hr : 1 ≤ r) {came L : List Sta} (k : TopS vK r came L) {x : Sta} (hx : x ∈ came) : L ≠ [] := fun e => by
  rcases k.all x hx with h | ⟨h, _⟩
  · rw [e] at h; cases h
  · rw [e] at h; change 0 = r at h; omega
/-- One that isn't kept: there is no room, and it is less than the least. -/
theorem top_out {r : Nat} {l : List Sta} (hno : NoC l) (kl : ∀ y ∈ l, y.Ok) {L : List Sta} (k : TopS vK r l L) {x : Sta} (hx : x ∈ l) (hn : keyN x ∉ L.map keyN) : L.length = r ∧ ∀ y ∈ L, Od.kcmp (keyN x) (keyN y) < 0 := by
  rcases k.all x hx with h | ⟨h1, h2⟩
  · exact absurd (List.mem_map.2 ⟨x, h, rfl⟩) hn
  · exact ⟨h1, fun y hy => Od.cmpN_neg.2 (h2 y hy)⟩
end Go.Proofs.YtnjmocobncncdaaDoor.So
