/-
  What a ring tells, over numbers and lists: how many blocks a sub-window has, the ring as of a later sub-window, with one block more; which rings are right.
-/
import Derived.Test.YtbbmjjphkmjnbaaRingMem
namespace Go.Proofs.Ytbbmjjphkmjnbaa.Rg
open Go.Proofs.Ytbbmjjphkmjnbaa.Mem Go.Proofs.Ytbbmjjphkmjnbaa.Bt
set_option linter.unusedVariables false

/-- How many blocks a ring tells of a sub-window. -/
def atG (L : Nat) (cs : List Nat) (g : Int) : Nat := if (L : Int) - 4 < g ∧ g ≤ (L : Int) then cs.getD (g % 4).toNat 0 else 0
/-- The latest sub-window of a ring place that isn't behind s. -/
def lat (s : Int) (p : Nat) : Int := s - (s - (p : Int)) % 4
theorem lat_mod (s : Int) {p : Nat} (h : p < 4) : (lat s p) % 4 = (p : Int) := by unfold lat; omega
theorem lat_le (s : Int) (p : Nat) : lat s p ≤ s := by unfold lat; omega
theorem lat_gt (s : Int) (p : Nat) : s - 4 < lat s p := by unfold lat; omega
theorem lat_of (s g : Int) (p : Nat) (h1 : s - 4 < g) (h2 : g ≤ s) (h3 : g % 4 = (p : Int)) : lat s p = g := by unfold lat; omega
/-- The counts as of a later sub-window, if no block comes up to there. -/
def mvd (L : Nat) (cs : List Nat) (s : Nat) : List Nat := [atG L cs (lat s 0), atG L cs (lat s 1), atG L cs (lat s 2), atG L cs (lat s 3)]
theorem mvd_len (L : Nat) (cs : List Nat) (s : Nat) : (mvd L cs s).length = 4 := rfl
theorem mvd_getD (L : Nat) (cs : List Nat) (s : Nat) {i : Nat} (h : i < 4) : (mvd L cs s).getD i 0 = atG L cs (lat s i) := by
  obtain rfl | rfl | rfl | rfl : i = 0 ∨ i = 1 ∨ i = 2 ∨ i = 3 := by omega
  all_goals rfl
theorem atG_in {L : Nat} {cs : List Nat} {g : Int} (h1 : (L : Int) - 4 < g) (h2 : g ≤ (L : Int)) : atG L cs g = cs.getD (g % 4).toNat 0 := if_pos ⟨h1, h2⟩
theorem atG_out {L : Nat} {cs : List Nat} {g : Int} (h : g ≤ (L : Int) - 4 ∨ (L : Int) < g) : atG L cs g = 0 := if_neg (by omega)
theorem atG_lat (L : Nat) (cs : List Nat) {i : Nat} (h : i < 4) : atG L cs (lat L i) = cs.getD i 0 := by
  rw [atG_in (lat_gt _ _) (lat_le _ _), lat_mod _ h]
  rfl
theorem set_getD (l : List Nat) (i j n : Nat) (h : i < l.length) : (l.set i n).getD j 0 = if i = j then n else l.getD j 0 := by
  rw [List.getD_eq_getElem?_getD, List.getElem?_set, List.getD_eq_getElem?_getD]
  by_cases e : i = j
  · subst e; simp [h]
  · simp [e]
theorem mvd_self {L : Nat} {cs : List Nat} (h : cs.length = 4) : mvd L cs L = cs :=
  getD_ext (by rw [mvd_len, h]) fun i hi => by rw [mvd_getD _ _ _ hi, atG_lat _ _ hi]
theorem mvd_step {L s : Nat} {cs : List Nat} (h : L ≤ s) : (mvd L cs s).set ((s + 1) % 4) 0 = mvd L cs (s + 1) := by
  refine getD_ext (by rw [List.length_set, mvd_len, mvd_len]) fun i hi => ?_
  rw [List.length_set, mvd_len] at hi
  rw [set_getD _ _ _ _ (by rw [mvd_len]; omega), mvd_getD _ _ _ hi]
  split
  · rename_i he
    rw [mvd_getD _ _ _ hi, lat_of ((s + 1 : Nat) : Int) ((s + 1 : Nat) : Int) i (by omega) (by omega) (by omega), atG_out (by omega)]
  · rename_i he
    rw [mvd_getD _ _ _ hi]
    congr 1
    unfold lat; omega
theorem mvd_far {L s : Nat} {cs : List Nat} (h : L + 4 ≤ s) : mvd L cs s = [0, 0, 0, 0] := by
  refine getD_ext rfl fun i hi => ?_
  rw [mvd_len] at hi
  rw [mvd_getD _ _ _ hi, atG_out (.inr (by have := lat_gt s i; omega))]
  obtain rfl | rfl | rfl | rfl : i = 0 ∨ i = 1 ∨ i = 2 ∨ i = 3 := by omega
  all_goals rfl
/-- What the ring as of a later sub-window tells is what the ring tells. -/
theorem atG_mvd {L s : Nat} {cs : List Nat} {g : Int} (h1 : (s : Int) - 4 < g) (h2 : g ≤ (s : Int)) : atG s (mvd L cs s) g = atG L cs g := by
  rw [atG_in h1 h2, mvd_getD _ _ _ (by omega), lat_of (s : Int) g _ h1 h2 (by omega)]
/-- The four counts together. -/
def sumc (cs : List Nat) : Nat := cs.getD 0 0 + cs.getD 1 0 + cs.getD 2 0 + cs.getD 3 0
theorem sumc_mvd (L s : Nat) (cs : List Nat) : sumc (mvd L cs s) = atG L cs s + atG L cs (s - 1) + atG L cs (s - 2) + atG L cs (s - 3) := by
  unfold sumc
  rw [mvd_getD _ _ _ (by omega), mvd_getD _ _ _ (by omega), mvd_getD _ _ _ (by omega), mvd_getD _ _ _ (by omega)]
  obtain h | h | h | h : s % 4 = 0 ∨ s % 4 = 1 ∨ s % 4 = 2 ∨ s % 4 = 3 := by omega
  · rw [lat_of (s : Int) s 0 (by omega) (by omega) (by omega), lat_of (s : Int) (s - 3) 1 (by omega) (by omega) (by omega), lat_of (s : Int) (s - 2) 2 (by omega) (by omega) (by omega), lat_of (s : Int) (s - 1) 3 (by omega) (by omega) (by omega)]; omega
  · rw [lat_of (s : Int) (s - 1) 0 (by omega) (by omega) (by omega), lat_of (s : Int) s 1 (by omega) (by omega) (by omega), lat_of (s : Int) (s - 3) 2 (by omega) (by omega) (by omega), lat_of (s : Int) (s - 2) 3 (by omega) (by omega) (by omega)]; omega
  · rw [lat_of (s : Int) (s - 2) 0 (by omega) (by omega) (by omega), lat_of (s : Int) (s - 1) 1 (by omega) (by omega) (by omega), lat_of (s : Int) s 2 (by omega) (by omega) (by omega), lat_of (s : Int) (s - 3) 3 (by omega) (by omega) (by omega)]; omega
  · rw [lat_of (s : Int) (s - 3) 0 (by omega) (by omega) (by omega), lat_of (s : Int) (s - 2) 1 (by omega) (by omega) (by omega), lat_of (s : Int) (s - 1) 2 (by omega) (by omega) (by omega), lat_of (s : Int) s 3 (by omega) (by omega) (by omega)]; omega
/-- No count is above three. -/
def Small (cs : List Nat) : Prop := ∀ i, i < 4 → cs.getD i 0 ≤ 3
/-- A ring that may be. -/
def Rt (L : Nat) (cs : List Nat) : Prop := Small cs ∧ 1 ≤ cs.getD (L % 4) 0
instance (cs : List Nat) : Decidable (Small cs) := by unfold Small; exact inferInstance
instance (L : Nat) (cs : List Nat) : Decidable (Rt L cs) := by unfold Rt; exact inferInstance
theorem atG_small {L : Nat} {cs : List Nat} (h : Small cs) (g : Int) : atG L cs g ≤ 3 := by
  unfold atG
  split
  · exact h _ (by omega)
  · omega
theorem mvd_small {L s : Nat} {cs : List Nat} (h : Small cs) : Small (mvd L cs s) := fun i hi => by rw [mvd_getD _ _ _ hi]; exact atG_small h _
theorem sumc_small {cs : List Nat} (h : Small cs) : sumc cs ≤ 12 := by
  have h0 := h 0 (by omega); have h1 := h 1 (by omega); have h2 := h 2 (by omega); have h3 := h 3 (by omega)
  unfold sumc; omega
theorem mvd_lt {n L s : Nat} {cs : List Nat} (h : AllLt n cs) (hn : 0 < n) : AllLt n (mvd L cs s) := by
  intro x hx
  unfold mvd at hx
  simp only [List.mem_cons, List.not_mem_nil, or_false] at hx
  rcases hx with rfl | rfl | rfl | rfl <;>
  · unfold atG
    split
    · exact getD_lt h hn _
    · exact hn
theorem small_lt {cs : List Nat} (h : Small cs) (hl : cs.length = 4) : AllLt 4 cs := by
  obtain ⟨a, b, c, d, rfl⟩ := four hl
  have h0 := h 0 (by omega); have h1 := h 1 (by omega); have h2 := h 2 (by omega); have h3 := h 3 (by omega)
  simp only [List.getD_cons_zero, List.getD_cons_succ] at h0 h1 h2 h3
  intro x hx
  simp only [List.mem_cons, List.not_mem_nil, or_false] at hx
  omega
/-- The counts with one block more in sub-window s. -/
def putd (L : Nat) (cs : List Nat) (s : Nat) : List Nat := (mvd L cs s).set (s % 4) (atG L cs s + 1)
theorem putd_len (L : Nat) (cs : List Nat) (s : Nat) : (putd L cs s).length = 4 := by unfold putd; rw [List.length_set]; rfl
theorem atG_putd {L s : Nat} {cs : List Nat} {g : Int} (h1 : (s : Int) - 4 < g) (h2 : g ≤ (s : Int)) : atG s (putd L cs s) g = atG L cs g + (if g = s then 1 else 0) := by
  unfold putd
  rw [atG_in h1 h2, set_getD _ _ _ _ (by rw [mvd_len]; omega)]
  by_cases e : g = s
  · subst e
    rw [if_pos (by omega), if_pos rfl]
  · rw [if_neg (by omega), if_neg e, mvd_getD _ _ _ (by omega), lat_of (s : Int) g _ h1 h2 (by omega), Nat.add_zero]
theorem putd_small {L s : Nat} {cs : List Nat} (h : Small cs) (hs : atG L cs s < 3) : Small (putd L cs s) := fun i hi => by
  unfold putd
  rw [set_getD _ _ _ _ (by rw [mvd_len]; omega)]
  split
  · omega
  · exact mvd_small h i hi
theorem putd_rt {L s : Nat} {cs : List Nat} (h : Small cs) (hs : atG L cs s < 3) : Rt s (putd L cs s) := ⟨putd_small h hs, by
  unfold putd
  rw [set_getD _ _ _ _ (by rw [mvd_len]; omega), if_pos rfl]; omega⟩
/-- The counts, none of the first k above three. -/
def mn (k : Nat) (cs : List Nat) : List Nat := (cs.take k).map (fun c => min c 3) ++ cs.drop k
theorem mn_len {k : Nat} {cs : List Nat} (h : cs.length = 4) (hk : k ≤ 4) : (mn k cs).length = 4 := by unfold mn; simp [h]; omega
theorem mn_zero (cs : List Nat) : mn 0 cs = cs := rfl
theorem mn_step {k : Nat} {cs : List Nat} (h : cs.length = 4) (hk : k < 4) : (mn k cs).set k (min (cs.getD k 0) 3) = mn (k + 1) cs := by
  obtain ⟨a, b, c, d, rfl⟩ := four h
  obtain rfl | rfl | rfl | rfl : k = 0 ∨ k = 1 ∨ k = 2 ∨ k = 3 := by omega
  all_goals simp [mn]
theorem mn_all {cs : List Nat} (h : cs.length = 4) {i : Nat} (hi : i < 4) : (mn 4 cs).getD i 0 = min (cs.getD i 0) 3 := by
  obtain ⟨a, b, c, d, rfl⟩ := four h
  obtain rfl | rfl | rfl | rfl : i = 0 ∨ i = 1 ∨ i = 2 ∨ i = 3 := by omega
  all_goals rfl
/-- The ring that is right and nearest. -/
def mend (L : Nat) (cs : List Nat) : List Nat := (mn 4 cs).set (L % 4) (max (min (cs.getD (L % 4) 0) 3) 1)
theorem mend_len {L : Nat} {cs : List Nat} (h : cs.length = 4) : (mend L cs).length = 4 := by unfold mend; rw [List.length_set, mn_len h (by omega)]
theorem mend_rt {L : Nat} {cs : List Nat} (h : cs.length = 4) : cs = mend L cs ↔ Rt L cs := by
  have key : ∀ i, i < 4 → (mend L cs).getD i 0 = if L % 4 = i then max (min (cs.getD (L % 4) 0) 3) 1 else min (cs.getD i 0) 3 := fun i hi => by
    unfold mend
    rw [set_getD _ _ _ _ (by rw [mn_len h (by omega)]; omega), mn_all h hi]
  constructor
  · intro e
    have e' : ∀ i, i < 4 → cs.getD i 0 = (mend L cs).getD i 0 := fun i _ => by rw [← e]
    refine ⟨fun i hi => ?_, ?_⟩
    · have := e' i hi
      rw [key i hi] at this
      split at this
      · omega
      · omega
    · have := e' (L % 4) (by omega)
      rw [key _ (by omega), if_pos rfl] at this
      omega
  · intro ⟨h1, h2⟩
    refine getD_ext (by rw [mend_len h, h]) fun i hi => ?_
    rw [h] at hi
    rw [key i hi]
    have := h1 i hi
    split
    · rename_i e; subst e; omega
    · omega
end Go.Proofs.Ytbbmjjphkmjnbaa.Rg
