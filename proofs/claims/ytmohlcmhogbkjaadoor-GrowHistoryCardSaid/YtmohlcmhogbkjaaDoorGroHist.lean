/-
  All of a state, told by the whole history of slots: the least of all windows that are looked at; what a child makes of it. Pure, but for layer 10's counted.
-/
import Derived.Test.YtmohlcmhogbkjaaDoorGroChainS
import Derived.Test.YtmohlcmhogbkjaaDoorAhead
import Derived.Test.YtmohlcmhogbkjaaDoorBytAll
namespace Go.Proofs.YtmohlcmhogbkjaaDoor.Gr
open Go.ChangeShapes Go.WideShapes Go.ChangeAt Go.RowKit Go.Proofs.YtmohlcmhogbkjaaDoor.Mem Go.Proofs.YtmohlcmhogbkjaaDoor.Bt Go.Proofs.YtmohlcmhogbkjaaDoor.Rg Go.Proofs.YtmohlcmhogbkjaaDoor.Wn Go.Proofs.YtmohlcmhogbkjaaDoor.Sa Go.Proofs.YtmohlcmhogbkjaaDoor.Wd
open Go.Proofs.YtmohlcmhogbkjaaDoor.Ep (H32 Dat Blk zh zh_ok num32 Has h_len one_app one_num szH overs nextF nowF seedN seed_ok)
set_option linter.unusedVariables false
set_option linter.unusedSimpArgs false

/-- Whether the window ahead of a history's block isn't looked at. -/
def skipW (xs : List Nat) (i : Nat) : Prop := i = 0 ∨ xs.getD i 0 < 12 ∨ xs.getD i 0 / 3 = xs.getD (i - 1) 0 / 3
instance (xs : List Nat) (i : Nat) : Decidable (skipW xs i) := by unfold skipW; infer_instance
def stepW (xs : List Nat) (i o : Nat) : Nat := if skipW xs i then o else min o (ahd (xs.take i) (xs.getD i 0 / 3) 4)
def loopW (xs : List Nat) : Nat → Nat
  | 0 => 12
  | i + 1 => stepW xs i (loopW xs i)
/-- The least of all windows that are looked at. -/
def wholeN (xs : List Nat) : Nat := loopW xs xs.length
theorem loopW_le (xs : List Nat) : ∀ i, loopW xs i ≤ 12
  | 0 => Nat.le_refl _
  | i + 1 => by
    have := loopW_le xs i
    unfold loopW stepW
    split
    · exact this
    · omega
theorem getD_app {xs : List Nat} {y k : Nat} (h : k < xs.length) : (xs ++ [y]).getD k 0 = xs.getD k 0 := by
  rw [List.getD_eq_getElem?_getD, List.getD_eq_getElem?_getD, List.getElem?_append_left h]
theorem getD_lst (xs : List Nat) (y : Nat) : (xs ++ [y]).getD xs.length 0 = y := by
  rw [List.getD_eq_getElem?_getD, List.getElem?_append_right (Nat.le_refl _), Nat.sub_self]
  rfl
theorem stepW_app {xs : List Nat} {y k o : Nat} (h : k < xs.length) : stepW (xs ++ [y]) k o = stepW xs k o := by
  have h1 : skipW (xs ++ [y]) k ↔ skipW xs k := by
    unfold skipW
    rw [getD_app h, getD_app (show k - 1 < xs.length by omega)]
  unfold stepW
  rw [getD_app h, List.take_append_of_le_length (by omega)]
  by_cases hs : skipW xs k
  · rw [if_pos hs, if_pos (h1.2 hs)]
  · rw [if_neg hs, if_neg (fun x => hs (h1.1 x))]
theorem loopW_app (xs : List Nat) (y : Nat) : ∀ k, k ≤ xs.length → loopW (xs ++ [y]) k = loopW xs k
  | 0, _ => rfl
  | k + 1, h => by unfold loopW; rw [loopW_app xs y k (by omega), stepW_app (by omega)]
theorem whole_snoc {xs : List Nat} {y : Nat} (hne : xs ≠ []) : wholeN (xs ++ [y]) = if y < 12 ∨ y / 3 = lastX xs / 3 then wholeN xs else min (wholeN xs) (ahd xs (y / 3) 4) := by
  have hl : xs.length ≠ 0 := fun h => hne (List.eq_nil_of_length_eq_zero h)
  unfold wholeN
  rw [List.length_append, List.length_singleton]
  conv => lhs; unfold loopW stepW
  rw [loopW_app xs y _ (Nat.le_refl _), getD_lst, List.take_left]
  have h1 : skipW (xs ++ [y]) xs.length ↔ y < 12 ∨ y / 3 = lastX xs / 3 := by
    unfold skipW
    rw [getD_lst, getD_app (show xs.length - 1 < xs.length by omega)]
    unfold lastX
    constructor
    · rintro (h | h)
      · exact absurd h hl
      · exact h
    · exact .inr
  by_cases hs : y < 12 ∨ y / 3 = lastX xs / 3
  · rw [if_pos hs, if_pos (h1.2 hs)]
  · rw [if_neg hs, if_neg (fun x => hs (h1.1 x))]
/-- What a history tells of a state. -/
structure GH (x : List Nat) (xs : List Nat) (s : Sta) : Prop where
  hist : Hist xs s.last s.counts
  slot : s.slot = lastX xs
  len : s.len = xs.length
  min : s.min = wholeN xs
  led : s.led = x
  nled : s.next.led = x
  right : SRt s
theorem GH.first (x : List Nat) : GH x [0] (genS x) := ⟨Hist.first, rfl, rfl, rfl, rfl, rfl, gen_right x⟩
theorem GH.fine {x xs : List Nat} {s : Sta} {b : Gb} (h : GH x xs s) (hb : lastX xs < b.slot) (ho : b.slot < 4294967296) (hn : xs.length ≤ 1000) : Fine s b := by
  obtain ⟨r1, r2, ⟨r3, r4⟩, r5, r6, ⟨r7, r8⟩, r9⟩ := h.right
  have hl := h.len; have hs := h.slot
  have hen := entN_le s.slot b.slot
  exact ⟨by rw [hs]; exact hb, by omega, by omega, h.hist.free hb, fun ho2 => by have := ho2.2; omega⟩
theorem relN_whole {xs : List Nat} {M L s : Nat} {ds : List Nat} (h : Hist xs L ds) (hM : M = wholeN xs) (hb : lastX xs < s) : relN M L ds s = wholeN (xs ++ [s]) := by
  have hl := h.last
  rw [whole_snoc h.ne]
  unfold relN
  by_cases hs : s < 12 ∨ s / 3 = lastX xs / 3
  · rw [if_pos hs, if_pos (by omega), hM]
  · rw [if_neg hs, if_neg (by omega), hM, h.ahead (by omega)]
theorem nextF_led {d : Dat} {b : Blk} : (nextF d b).led = if b.fro / 24 < b.to / 24 then b.led else d.led := by
  unfold nextF Ep.lockd Ep.made
  by_cases ht : b.fro / 24 < b.to / 24
  · rw [if_pos ht, if_pos ht]; split <;> rfl
  · rw [if_neg ht, if_neg ht]; split <;> rfl
/-- With one block more. -/
theorem GH.next {x xs dr : List Nat} {s : Sta} {t : Nat} (h : GH x xs s) (hb : lastX xs < t) (ho : t < 4294967296) (hn : xs.length ≤ 1000) : GH x (xs ++ [t]) (chS s ⟨t, x, dr⟩) := by
  have hf : Fine s ⟨t, x, dr⟩ := h.fine hb ho hn
  have hl := h.len
  rw [chS_fine hf]
  refine ⟨?_, ?_, ?_, ?_, ?_, ?_, grown_right h.right hf⟩ <;> rw [grown_fine hf]
  · exact h.hist.next hb ho
  · exact (lastX_snoc _ _).symm
  · rw [List.length_append, List.length_singleton]; exact congrArg (· + 1) hl
  · exact relN_whole h.hist h.min hb
  · show (nextF s.next (blkOf s ⟨t, x, dr⟩)).led = x
    rw [nextF_led]
    split
    · exact h.led
    · exact h.nled
/-! ### Next, as the law makes it. -/
def tB (s : Sta) (t : Nat) : Dat := if s.slot / 24 < t / 24 then ⟨s.next.led, s.next.seed, digS s, zh, 0⟩ else s.next
def tC (s : Sta) (t : Nat) : Dat := ⟨(tB s t).led, (tB s t).seed, (tB s t).start, (tB s t).lock, (tB s t).len + 1⟩
def sdF (s : Sta) (t : Nat) (dr : List Nat) : List Nat := if t % 24 < 16 then seedN s.next.seed dr else s.next.seed
def tD (s : Sta) (t : Nat) : Dat := if t % 24 < 16 then ⟨(tC s t).led, (tC s t).seed, (tC s t).start, digS s, (tC s t).len⟩ else tC s t
def cB (s : Sta) (t : Nat) : Dat := if s.slot / 24 < t / 24 then s.next else s.now
theorem cB_now {s : Sta} {b : Gb} : cB s b.slot = nowF s.now s.next (blkOf s b) := rfl
theorem tE_next {x dr : List Nat} {s : Sta} {t : Nat} (hl : s.next.led = x) (hx : s.led = x) : Dat.mk x (sdF s t dr) (tD s t).start (tD s t).lock (tD s t).len = nextF s.next (blkOf s ⟨t, x, dr⟩) := by
  have e1 : (blkOf s ⟨t, x, dr⟩).fro = s.slot := rfl
  have e2 : (blkOf s ⟨t, x, dr⟩).to = t := rfl
  have e3 : (blkOf s ⟨t, x, dr⟩).prev = digS s := rfl
  have e4 : (blkOf s ⟨t, x, dr⟩).led = s.led := rfl
  have e5 : (blkOf s ⟨t, x, dr⟩).draw = dr := rfl
  unfold nextF Ep.lockd Ep.made Ep.lockD tD tC tB sdF Ep.turnD Ep.moreD
  simp only [e1, e2, e3, e4, e5]
  by_cases h1 : s.slot / 24 < t / 24 <;> by_cases h2 : t % 24 < 16
  · simp only [if_pos h1, if_pos h2, hx]
  · simp only [if_pos h1, if_neg h2, hx]
  · simp only [if_neg h1, if_pos h2, hl]
  · simp only [if_neg h1, if_neg h2, hl]
theorem sdF_next {x dr : List Nat} {s : Sta} {t : Nat} (hl : s.next.led = x) (hx : s.led = x) : sdF s t dr = (nextF s.next (blkOf s ⟨t, x, dr⟩)).seed := by
  rw [← tE_next hl hx]
end Go.Proofs.YtmohlcmhogbkjaaDoor.Gr
