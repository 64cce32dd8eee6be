/-
  What is written of a state is read; bytes come back; unlike states have unlike bytes: over lists. No program.
-/
import Derived.Test.YtnjmocobncncdaaDoorStaMem
import Derived.Test.YtnjmocobncncdaaDoorWireRefAll
namespace Go.Proofs.YtnjmocobncncdaaDoor.Sa
open Go.RowKit Go.Proofs.YtnjmocobncncdaaDoor.Mem Go.Proofs.YtnjmocobncncdaaDoor.Bt Go.Proofs.YtnjmocobncncdaaDoor.Rg Go.Proofs.YtnjmocobncncdaaDoor.Wi
open Go.Proofs.YtnjmocobncncdaaDoor.Ep (H32 Dat zh zh_ok num32 dcs dcs_len dcs_one zd zd_ok Has h_len one_app one_num szH)
set_option linter.unusedVariables false
set_option linter.unusedSimpArgs false

def bsz (i : Nat) : Nat := if isH i then 32 else 4
def boff : Nat → Nat
  | 0 => 0
  | i + 1 => boff i + bsz i
theorem boff_mono (i : Nat) : boff i ≤ boff (i + 1) := Nat.le_add_right _ _
theorem qs_step (b : List Nat) (i : Nat) : qs b (i + 1) = (takeR (bsz i) (qs b i)).2 := by
  unfold bsz
  by_cases h : isH i = true
  · rw [qs_h h, if_pos h]; rfl
  · rw [qs_n (by simpa using h), if_neg h]; rfl
theorem qs_fit (b : List Nat) : ∀ i, boff i ≤ b.length → qs b i = (b.drop (boff i), 0)
  | 0, _ => rfl
  | i + 1, h => by
    have h1 : boff i ≤ b.length := Nat.le_trans (boff_mono i) h
    have h2 : bsz i ≤ (b.drop (boff i)).length := by rw [List.length_drop]; unfold boff at h; omega
    rw [qs_step, qs_fit b i h1]
    unfold takeR
    rw [if_pos h2]
    simp only [List.drop_drop]
    rfl
theorem hv_fit {b : List Nat} {i : Nat} (h : isH i = true) (hb : boff (i + 1) ≤ b.length) : hv b i = (b.drop (boff i)).take 32 := by
  have hz : bsz i = 32 := by unfold bsz; rw [if_pos h]
  unfold boff at hb
  unfold hv
  rw [qs_fit b i (by omega)]
  unfold hashR
  rw [if_pos (by rw [List.length_drop]; omega)]
theorem nv_fit {b : List Nat} {i : Nat} (h : isH i = false) (hb : boff (i + 1) ≤ b.length) : nv b i = numOf ((b.drop (boff i)).take 4) := by
  have hz : bsz i = 4 := by unfold bsz; rw [if_neg (by rw [h]; decide)]
  unfold boff at hb
  unfold nv
  rw [qs_fit b i (by omega)]
  unfold numR takeR
  rw [if_pos (by rw [List.length_drop]; omega)]
theorem boff_le : ∀ i, i ≤ 22 → boff i ≤ 396 := by
  intro i hi
  rcases Nat.lt_or_ge i 22 with h | h
  · rcases cases22 h with rfl | rfl | rfl | rfl | rfl | rfl | rfl | rfl | rfl | rfl | rfl | rfl | rfl | rfl | rfl | rfl | rfl | rfl | rfl | rfl | rfl | rfl <;> decide
  · obtain rfl : i = 22 := by omega
    decide
theorem bP_len {s : Sta} (k : s.Ok) : ∀ i, (bP s i).length = boff i
  | 0 => rfl
  | i + 1 => by unfold bP boff bsz; rw [List.length_append, bP_len k i, fB_len k]
def eB (s : Sta) (i : Nat) : List Nat := (List.range' i (22 - i)).flatMap (fB s)
theorem eB_step {s : Sta} {i : Nat} (h : i < 22) : eB s i = fB s i ++ eB s (i + 1) := by
  unfold eB
  obtain ⟨m, hm⟩ : ∃ m, 22 - i = m + 1 := ⟨21 - i, by omega⟩
  rw [hm, List.range'_succ, List.flatMap_cons, show 22 - (i + 1) = m by omega]
theorem be_all (s : Sta) : ∀ i, i ≤ 22 → bP s i ++ eB s i = staB s := by
  have h : ∀ n i, 22 - i = n → i ≤ 22 → bP s i ++ eB s i = bP s 22 := by
    intro n
    induction n with
    | zero =>
      intro i hn hi
      obtain rfl : i = 22 := by omega
      rw [show eB s 22 = [] from rfl, List.append_nil]
    | succ n ih =>
      intro i hn hi
      rw [eB_step (by omega), ← List.append_assoc]
      exact ih (i + 1) (by omega) (by omega)
  exact fun i hi => h _ i rfl hi
theorem part_of {s : Sta} (k : s.Ok) {i : Nat} (hi : i < 22) : ((staB s).drop (boff i)).take (bsz i) = fB s i := by
  have hl : (fB s i).length = bsz i := by rw [fB_len k]; rfl
  rw [← be_all s i (by omega), eB_step hi, ← bP_len k i, List.drop_left, ← hl, List.take_left]
theorem hv_back {s : Sta} (k : s.Ok) {i : Nat} (hi : i < 22) (h : isH i = true) : hv (staB s) i = hF s i := by
  have hz : bsz i = 32 := by unfold bsz; rw [if_pos h]
  rw [hv_fit h (by rw [staB_len k]; exact boff_le _ (by omega)), ← hz, part_of k hi, fB_h h]
theorem nv_back {s : Sta} (k : s.Ok) {i : Nat} (hi : i < 22) (h : isH i = false) : nv (staB s) i = nF s i := by
  have hz : bsz i = 4 := by unfold bsz; rw [if_neg (by rw [h]; decide)]
  rw [nv_fit h (by rw [staB_len k]; exact boff_le _ (by omega)), ← hz, part_of k hi, fB_n h, numOf_put]
  exact Nat.mod_eq_of_lt (nF_lt k i)
/-- States come back from their bytes. -/
theorem sta_back {s : Sta} (k : s.Ok) : staR (staB s) = s := by
  have hc := counts_eq k
  unfold staR
  rw [hv_back k (i := 0) (by omega) rfl, hv_back k (i := 1) (by omega) rfl, hv_back k (i := 2) (by omega) rfl, hv_back k (i := 12) (by omega) rfl, hv_back k (i := 13) (by omega) rfl, hv_back k (i := 14) (by omega) rfl, hv_back k (i := 15) (by omega) rfl,
    hv_back k (i := 17) (by omega) rfl, hv_back k (i := 18) (by omega) rfl, hv_back k (i := 19) (by omega) rfl, hv_back k (i := 20) (by omega) rfl,
    nv_back k (i := 3) (by omega) rfl, nv_back k (i := 4) (by omega) rfl, nv_back k (i := 5) (by omega) rfl, nv_back k (i := 6) (by omega) rfl, nv_back k (i := 7) (by omega) rfl, nv_back k (i := 8) (by omega) rfl, nv_back k (i := 9) (by omega) rfl, nv_back k (i := 10) (by omega) rfl, nv_back k (i := 11) (by omega) rfl,
    nv_back k (i := 16) (by omega) rfl, nv_back k (i := 21) (by omega) rfl]
  show Sta.mk s.prev s.led s.draw s.slot s.len s.count s.min s.last [s.counts.getD 0 0, s.counts.getD 1 0, s.counts.getD 2 0, s.counts.getD 3 0] s.now s.next = s
  rw [← hc]
/-- Unlike states have unlike bytes. -/
theorem bytes_inj {s t : Sta} (k : s.Ok) (j : t.Ok) (h : staB s = staB t) : s = t := by rw [← sta_back k, h, sta_back j]
theorem u8s_inj {x y : List Nat} (h : u8s x = u8s y) : x = y := by
  unfold u8s at h
  refine (List.map_inj_right (fun a b e => ?_)).1 h
  have := (Value.int.inj e).2
  omega
theorem num32_inj {a b : Nat} (h : [num32 a] = [num32 b]) : a = b := by
  have := (Value.int.inj (List.cons.inj h).1).2
  omega
theorem cells_inj {s t : Sta} (k : s.Ok) (j : t.Ok) (h : scs s = scs t) : s = t := by
  have hf : ∀ i, i < 22 → fB s i = fB t i := by
    intro i hi
    have h1 := (s_has k hi).chunk (fC_len k i)
    have h2 := (s_has j hi).chunk (fC_len j i)
    rw [h] at h1
    have h3 : fC s i = fC t i := h1.symm.trans h2
    by_cases e : isH i = true
    · rw [fC_h e, fC_h e] at h3
      rw [fB_h e, fB_h e, u8s_inj h3]
    · have e : isH i = false := by simpa using e
      rw [fC_n e, fC_n e] at h3
      rw [fB_n e, fB_n e, num32_inj h3]
  have hb : ∀ i, i ≤ 22 → bP s i = bP t i := by
    intro i
    induction i with
    | zero => intro _; rfl
    | succ i ih => intro hi; unfold bP; rw [ih (by omega), hf i (by omega)]
  exact bytes_inj k j (hb 22 (Nat.le_refl _))
end Go.Proofs.YtnjmocobncncdaaDoor.Sa
