/-
  How many of some slots are in a sub-window: the contract of layer 6's counted; what a ring tells of a history of slots. Over this seat's translation.
-/
import Derived.Test.YtmohlcmhogbkjaaDoorBytAll
import Derived.Test.YtmohlcmhogbkjaaDoorRingAll
import Derived.Test.YtmohlcmhogbkjaaDoorNumAll
namespace Go.Proofs.YtmohlcmhogbkjaaDoor.Rg
open Go.ChangeShapes Go.WideShapes Go.ChangeAt Go.RowKit Go.Proofs.YtmohlcmhogbkjaaDoor.Mem Go.Proofs.YtmohlcmhogbkjaaDoor.Bt Go.Proofs.YtmohlcmhogbkjaaDoor.Wd
set_option linter.unusedVariables false
set_option linter.unusedSimpArgs false

/-- How many of some slots are in sub-window g; ahead of the first one three. -/
def cntIn (xs : List Nat) (g : Int) : Nat := (xs.filter fun x => decide (((x / 3 : Nat) : Int) = g)).length
def cnt (xs : List Nat) (g : Int) : Nat := if g < 0 then 3 else cntIn xs g
theorem cntIn_snoc (xs : List Nat) (s : Nat) (g : Int) : cntIn (xs ++ [s]) g = cntIn xs g + (if ((s / 3 : Nat) : Int) = g then 1 else 0) := by
  unfold cntIn
  rw [List.filter_append, List.length_append]
  congr 1
  by_cases h : ((s / 3 : Nat) : Int) = g
  · rw [if_pos h, List.filter_cons, if_pos (decide_eq_true h)]; rfl
  · rw [if_neg h, List.filter_cons, if_neg (fun hc => h (of_decide_eq_true hc))]; rfl
theorem cntIn_take (xs : List Nat) (k : Nat) (h : k < xs.length) (g : Int) : cntIn (xs.take (k + 1)) g = cntIn (xs.take k) g + (if ((xs.getD k 0 / 3 : Nat) : Int) = g then 1 else 0) := by
  have : xs.take (k + 1) = xs.take k ++ [xs.getD k 0] := by
    rw [List.take_succ_eq_append_getElem h, List.getD_eq_getElem?_getD, List.getElem?_eq_getElem h]; rfl
  rw [this, cntIn_snoc]
theorem cntIn_le (xs : List Nat) (g : Int) : cntIn xs g ≤ xs.length := List.length_filter_le _ _
structure CnRel (w : World) (xs : List Nat) (g : Int) (i n : Value) (wr : World) : Prop where
  ex : ∃ k : Nat, k ≤ xs.length ∧ i = .int .i64 k ∧ n = .int .u32 (cntIn (xs.take k) g : Nat)
  bel : w = wr
/-- The last of some slots. -/
def lastX (xs : List Nat) : Nat := xs.getD (xs.length - 1) 0
theorem lastX_snoc (xs : List Nat) (s : Nat) : lastX (xs ++ [s]) = s := by
  unfold lastX
  rw [List.length_append, List.length_singleton, Nat.add_sub_cancel, List.getD_eq_getElem?_getD, List.getElem?_append_right (Nat.le_refl _), Nat.sub_self]
  rfl
/-- The ring tells what is counted in the history. -/
structure Hist (xs : List Nat) (L : Nat) (ds : List Nat) : Prop where
  ne : xs ≠ []
  lt_ : AllLt 4294967296 xs
  last : L = lastX xs / 3
  len : ds.length = 4
  small : Small ds
  at_ : ∀ g : Int, (L : Int) - 4 < g → g ≤ (L : Int) → atG L ds g = cnt xs g
  behind : ∀ g : Int, (L : Int) < g → cntIn xs g = 0
  room : cntIn xs (L : Int) ≤ lastX xs % 3 + 1
theorem Hist.first : Hist [0] 0 [1, 3, 3, 3] where
  ne := by simp
  lt_ := by intro x hx; simp at hx; omega
  last := rfl
  len := rfl
  small := fun i hi => by
    obtain rfl | rfl | rfl | rfl : i = 0 ∨ i = 1 ∨ i = 2 ∨ i = 3 := by omega
    all_goals decide
  at_ := fun g h1 h2 => by
    obtain rfl | rfl | rfl | rfl : g = 0 ∨ g = -1 ∨ g = -2 ∨ g = -3 := by omega
    all_goals decide
  behind := fun g h => by
    unfold cntIn
    have : ¬ ((0 / 3 : Nat) : Int) = g := by omega
    simp [List.filter_cons, this]
    omega
  room := by decide
theorem Hist.last_lt {xs : List Nat} {L : Nat} {ds : List Nat} (h : Hist xs L ds) : lastX xs < 4294967296 := getD_lt h.lt_ (by omega) _
/-- What is counted anywhere, by the ring. -/
theorem Hist.any {xs : List Nat} {L : Nat} {ds : List Nat} (h : Hist xs L ds) {g : Int} (hg : (L : Int) - 4 < g) : atG L ds g = cnt xs g := by
  rcases Int.lt_or_le (L : Int) g with h1 | h1
  · rw [atG_out (.inr h1)]
    unfold cnt
    rw [if_neg (by omega), h.behind g h1]
  · exact h.at_ g hg h1
theorem Hist.free {xs : List Nat} {L : Nat} {ds : List Nat} (h : Hist xs L ds) {s : Nat} (hs : lastX xs < s) : L ≤ s / 3 ∧ atG L ds ((s / 3 : Nat) : Int) < 3 := by
  have hl := h.last
  refine ⟨by omega, ?_⟩
  rw [h.any (by omega)]
  unfold cnt
  rw [if_neg (by omega)]
  rcases Nat.lt_or_ge L (s / 3) with h1 | h1
  · rw [h.behind _ (by omega)]; omega
  · have e : s / 3 = L := by omega
    have := h.room
    rw [e]; omega
theorem Hist.next {xs : List Nat} {L : Nat} {ds : List Nat} (h : Hist xs L ds) {s : Nat} (hs : lastX xs < s) (hb : s < 4294967296) : Hist (xs ++ [s]) (s / 3) (putd L ds (s / 3)) where
  ne := by simp
  lt_ := append_lt h.lt_ (by intro x hx; simp at hx; omega)
  last := by rw [lastX_snoc]
  len := putd_len _ _ _
  small := putd_small h.small (h.free hs).2
  at_ := fun g h1 h2 => by
    have hL := (h.free hs).1
    rw [atG_putd h1 h2, h.any (by omega)]
    unfold cnt
    by_cases h0 : g < 0
    · rw [if_pos h0, if_pos h0, if_neg (by omega)]
    · rw [if_neg h0, if_neg h0, cntIn_snoc]
      congr 1
      by_cases e : g = ((s / 3 : Nat) : Int)
      · rw [if_pos e, if_pos e.symm]
      · rw [if_neg e, if_neg (fun h => e h.symm)]
  behind := fun g hg => by
    have hL := (h.free hs).1
    rw [cntIn_snoc, h.behind g (by omega), if_neg (by omega)]
  room := by
    have hL := (h.free hs).1
    rw [lastX_snoc, cntIn_snoc, if_pos rfl]
    have hl := h.last
    rcases Nat.lt_or_ge L (s / 3) with h1 | h1
    · rw [h.behind _ (by omega)]; omega
    · have e : s / 3 = L := by omega
      have := h.room
      rw [e]; omega
end Go.Proofs.YtmohlcmhogbkjaaDoor.Rg
