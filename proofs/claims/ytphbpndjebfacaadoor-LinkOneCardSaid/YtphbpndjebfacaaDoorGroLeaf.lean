/-
  The contracts of package grow's small functions: sums that fit, whether an epoch comes in, whether a slot is behind, the first error. Over this seat's translation.
-/
import Derived.Test.YtphbpndjebfacaaDoorGroMem
import Derived.Test.YtphbpndjebfacaaDoorEpoAll
namespace Go.Proofs.YtphbpndjebfacaaDoor.Gr
open Go.ChangeShapes Go.WideShapes Go.ChangeAt Go.RowKit Go.Proofs.YtphbpndjebfacaaDoor.Mem Go.Proofs.YtphbpndjebfacaaDoor.Bt
open Num (in32 keep32)
set_option linter.unusedVariables false
set_option linter.unusedSimpArgs false

/-- A sum that fits, or 0; what is wrong with one that doesn't fit. -/
def addV (a b : Nat) : Nat := if a + b < 4294967296 then a + b else 0
def addE (a b : Nat) : Int := if a + b < 4294967296 then 0 else 5
theorem addV_lt (a b : Nat) : addV a b < 4294967296 := by unfold addV; split <;> omega
theorem added_any (a b : Nat) (w : World) (ha : a < 4294967296) (hb : b < 4294967296) :
    Calls Tryd.prog 27 #[.int .u32 (a : Int), .int .u32 (b : Int)] w fun e w' => e = .returned (.tuple #[.int .u32 (addV a b : Int), .int .i64 (addE a b)]) ∧ Below w.heap.size w w' := by
  have C := Slot.add32B_any (a : Int) (b : Int) w (by omega) (by omega) (by omega) (by omega)
  by_cases hf : a + b < 4294967296
  · have hi : in32 ((a : Int) + (b : Int)) = true := by unfold in32; simp; omega
    have hk : keep32 ((a : Int) + (b : Int)) = ((a + b : Nat) : Int) := by unfold keep32; rw [if_pos hi]; omega
    rw [hi, hk] at C
    rw [show addV a b = a + b from if_pos hf, show addE a b = 0 from if_pos hf]
    generalize a + b = s at C ⊢
    clear hi hk
    go_enter Tryd.func27, Tryd.ntmps27
    go_wp2_with fail
    refine C.mono ?_
    rintro e w1 ⟨rfl, g1⟩
    go_wp2
    go_ret2
    exact ⟨rfl, g1⟩
  · have hi : in32 ((a : Int) + (b : Int)) = false := by unfold in32; simp; omega
    rw [hi, Slot.keep32_no0 hi] at C
    rw [show addV a b = 0 from if_neg hf, show addE a b = 5 from if_neg hf]
    clear hi
    go_enter Tryd.func27, Tryd.ntmps27
    go_wp2_with fail
    refine C.mono ?_
    rintro e w1 ⟨rfl, g1⟩
    go_wp2
    go_ret2
    exact ⟨rfl, g1⟩
/-- How many epochs come in. -/
def entN (a b : Nat) : Nat := if a / 24 < b / 24 then 1 else 0
theorem entN_le (a b : Nat) : entN a b ≤ 1 := by unfold entN; split <;> omega
theorem entered_any (a b : Nat) (w : World) (ha : a < 4294967296) (hb : b < 4294967296) :
    Calls Tryd.prog 28 #[.int .u32 (a : Int), .int .u32 (b : Int)] w fun e w' => e = .returned (.int .u32 (entN a b : Int)) ∧ Below w.heap.size w w' := by
  have C := Slot.turnsB_any a b w ha hb
  by_cases hf : a / 24 < b / 24
  · rw [decide_eq_true hf] at C
    rw [show entN a b = 1 from if_pos hf]
    clear hf
    go_enter Tryd.func28, Tryd.ntmps28
    go_wp2_with fail
    refine C.mono ?_
    rintro e w1 ⟨rfl, g1⟩
    go_wp2
    go_ret
    exact ⟨rfl, g1⟩
  · rw [decide_eq_false hf] at C
    rw [show entN a b = 0 from if_neg hf]
    clear hf
    go_enter Tryd.func28, Tryd.ntmps28
    go_wp2_with fail
    refine C.mono ?_
    rintro e w1 ⟨rfl, g1⟩
    go_wp2
    go_ret
    exact ⟨rfl, g1⟩
/-- What is wrong with a slot that isn't behind. -/
def behE (a b : Nat) : Int := if b ≤ a then 6 else 0
theorem behind_any (a b : Nat) (w : World) (ha : a < 4294967296) (hb : b < 4294967296) :
    Calls Tryd.prog 32 #[.int .u32 (a : Int), .int .u32 (b : Int)] w fun e w' => e = .returned (.int .i64 (behE a b)) ∧ w = w' := by
  by_cases hf : b ≤ a
  · have hd : decide ((b : Int) ≤ (a : Int)) = true := decide_eq_true (by omega)
    have hd2 : decide (b ≤ a) = true := decide_eq_true hf
    rw [show behE a b = 6 from if_pos hf]
    clear hf
    go_enter Tryd.func32, Tryd.ntmps32
    go_wp2_with fail
    go_ret
    exact ⟨rfl, rfl⟩
  · have hd : decide ((b : Int) ≤ (a : Int)) = false := decide_eq_false (by omega)
    have hd2 : decide (b ≤ a) = false := decide_eq_false hf
    rw [show behE a b = 0 from if_neg hf]
    clear hf
    go_enter Tryd.func32, Tryd.ntmps32
    go_wp2_with fail
    go_ret
    exact ⟨rfl, rfl⟩
/-- The first error. -/
def firstE : List Int → Int
  | [] => 0
  | e :: l => if e = 0 then firstE l else e
theorem firstE_cases : ∀ l : List Int, (firstE l = 0 ∧ ∀ j, j < l.length → l.getD j 0 = 0) ∨ ∃ m, m < l.length ∧ (∀ j, j < m → l.getD j 0 = 0) ∧ l.getD m 0 ≠ 0 ∧ firstE l = l.getD m 0
  | [] => .inl ⟨rfl, fun j h => by simp at h⟩
  | e :: l => by
    by_cases he : e = 0
    · subst he
      rcases firstE_cases l with ⟨h1, h2⟩ | ⟨m, h1, h2, h3, h4⟩
      · refine .inl ⟨by unfold firstE; rw [if_pos rfl, h1], fun j hj => ?_⟩
        cases j with
        | zero => rfl
        | succ j => rw [List.getD_cons_succ]; exact h2 j (by simpa using hj)
      · refine .inr ⟨m + 1, by simpa using h1, fun j hj => ?_, by rw [List.getD_cons_succ]; exact h3, by unfold firstE; rw [if_pos rfl, h4, List.getD_cons_succ]⟩
        cases j with
        | zero => rfl
        | succ j => rw [List.getD_cons_succ]; exact h2 j (by omega)
    · exact .inr ⟨0, by simp, fun j hj => by omega, he, by unfold firstE; rw [if_neg he]; rfl⟩
theorem first_none (es : List Int) (B off cap : Nat) (w : World) (hlen : es.length ≤ 1000) (hc : ∀ j, j < es.length → w.cell? ⟨B, off + j, none⟩ = some (.int .i64 0)) :
    Calls Tryd.prog 31 #[.slice (some ⟨B, off, none⟩) es.length cap] w fun e w' => e = .returned (.int .i64 0) ∧ w = w' := by
  have HC := Lib.hid hc; clear hc
  go_enter Tryd.func31, Tryd.ntmps31
  go_wp2
  go_loop [7] (fun i => ∃ k : Nat, k ≤ es.length ∧ i = .int .i64 k) (fun i => es.length - (intOf i).toNat)
  case atStart => exact ⟨0, Nat.zero_le _, rfl⟩
  case round =>
    obtain ⟨k, hk, rfl⟩ := hrel
    by_cases hlt : k < es.length
    · have hcell := HC.out k hlt
      go_wp2
      go_round
      case rel => exact ⟨k + 1, by omega, by go_num⟩
      case measure => simp [intOf]; omega
    · go_wp2
      go_ret
      exact ⟨rfl, rfl⟩
theorem first_at (es : List Int) (B off cap m : Nat) (z : Int) (w : World) (hlen : es.length ≤ 1000) (hm : m < es.length) (hc : ∀ j, j < m → w.cell? ⟨B, off + j, none⟩ = some (.int .i64 0)) (hf : w.cell? ⟨B, off + m, none⟩ = some (.int .i64 z)) (hz : z ≠ 0) :
    Calls Tryd.prog 31 #[.slice (some ⟨B, off, none⟩) es.length cap] w fun e w' => e = .returned (.int .i64 z) ∧ w = w' := by
  have HC := Lib.hid hc; clear hc
  have HF := Lib.hid hf; clear hf
  have hz1 : (z == 0) = false := beq_eq_false_iff_ne.2 hz
  have hz2 : (z != 0) = true := bne_iff_ne.2 hz
  clear hz
  go_enter Tryd.func31, Tryd.ntmps31
  go_wp2
  go_loop [7] (fun i => ∃ k : Nat, k ≤ m ∧ i = .int .i64 k) (fun i => es.length - (intOf i).toNat)
  case atStart => exact ⟨0, Nat.zero_le _, rfl⟩
  case round =>
    obtain ⟨k, hk, rfl⟩ := hrel
    by_cases hlt : k < m
    · have hcell := HC.out k hlt
      go_wp2
      go_round
      case rel => exact ⟨k + 1, by omega, by go_num⟩
      case measure => simp [intOf]; omega
    · obtain rfl : k = m := by omega
      have hcell := HF.out
      go_wp2
      go_ret
      exact ⟨rfl, rfl⟩
theorem first_any (es : List Int) (B off cap : Nat) (w : World) (hlen : es.length ≤ 1000) (hc : ∀ j, j < es.length → w.cell? ⟨B, off + j, none⟩ = some (.int .i64 (es.getD j 0))) :
    Calls Tryd.prog 31 #[.slice (some ⟨B, off, none⟩) es.length cap] w fun e w' => e = .returned (.int .i64 (firstE es)) ∧ w = w' := by
  rcases firstE_cases es with ⟨h1, h2⟩ | ⟨m, h1, h2, h3, h4⟩
  · rw [h1]
    exact first_none es B off cap w hlen fun j hj => by rw [hc j hj, h2 j hj]
  · rw [h4]
    exact first_at es B off cap m _ w hlen h1 (fun j hj => by rw [hc j (by omega), h2 j hj]) (hc m h1) h3
end Go.Proofs.YtphbpndjebfacaaDoor.Gr
