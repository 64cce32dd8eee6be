/-
  WindowLeast, walked: Min is the least of all windows that are looked at, counted in the whole history. Over this seat's translation.
-/
import Derived.Test.YtbbmjjphkmjnbaaWinLaws
import Derived.Test.YtbbmjjphkmjnbaaAhead
import Derived.Test.YtbbmjjphkmjnbaaWords
namespace Go.Proofs.Ytbbmjjphkmjnbaa.Wn
open Go.ChangeShapes Go.WideShapes Go.ChangeAt Go.RowKit Go.Proofs.Ytbbmjjphkmjnbaa.Mem Go.Proofs.Ytbbmjjphkmjnbaa.Bt Go.Proofs.Ytbbmjjphkmjnbaa.Rg Go.Proofs.Ytbbmjjphkmjnbaa.Wd
set_option linter.unusedVariables false
set_option linter.unusedSimpArgs false

theorem cntIn_neg (xs : List Nat) {g : Int} (h : g < 0) : cntIn xs g = 0 := by
  unfold cntIn
  rw [List.length_eq_zero_iff, List.filter_eq_nil_iff]
  intro x _ hx
  have := of_decide_eq_true hx
  omega
/-- What stands ahead of the slots themselves. -/
def pre3 (g : Int) : Nat := if g < 0 then 3 else 0
theorem pre3_le (g : Int) : pre3 g ≤ 3 := by unfold pre3; split <;> omega
theorem cnt_pre (xs : List Nat) (g : Int) : cnt xs g = pre3 g + cntIn xs g := by
  unfold cnt pre3
  by_cases h : g < 0
  · rw [if_pos h, if_pos h, cntIn_neg xs h]
  · rw [if_neg h, if_neg h]; omega
structure CoRel (w : World) (xs : List Nat) (sub : Nat) (i n : Value) (wr : World) : Prop where
  ex : ∃ k : Nat, k ≤ 4 ∧ i = .int .i64 ((k : Int) + 1) ∧ n = .int .u32 (ahd xs sub k : Nat)
  bel : w = wr
structure CiRel (w : World) (xs : List Nat) (g : Int) (b : Nat) (i n : Value) (wr : World) : Prop where
  ex : ∃ j : Nat, j ≤ xs.length ∧ i = .int .i64 j ∧ n = .int .u32 (b + cntIn (xs.take j) g : Nat)
  bel : w = wr
set_option maxHeartbeats 2000000 in
set_option maxRecDepth 100000 in
theorem counted7_any (xs : List Nat) (p : Option Addr) (cap sub : Nat) (w : World) (hr : R32 w p xs) (ht : AllLt 4294967296 xs) (hn : xs.length ≤ 1000) (hs : sub < 4294967296) :
    Calls Try.prog 18 #[.slice p xs.length cap, .int .u32 (sub : Int)] w fun e w' => e = .returned (.int .u32 (ahd xs sub 4 : Nat)) ∧ w = w' := by
  have HR := Lib.hid hr; have HT := Lib.hid ht; clear hr ht
  have h0 : CoRel w xs sub (.int .i64 1) (.int .u32 0) w := ⟨⟨0, by omega, rfl, rfl⟩, rfl⟩
  go_enter Try.func18, Try.ntmps18
  go_wp2_with fail
  go_loopw [6, 5] (fun i n wr => CoRel w xs sub i n wr) (fun i _ _ => 5 - (intOf i).toNat)
  case atStart => exact h0
  case round =>
    clear h0
    obtain ⟨⟨k, hk, rfl, rfl⟩, rfl⟩ := hrel
    by_cases hlt : k < 4
    · have ik : decide ((k : Int) + 1 ≤ 4) = true := decide_eq_true (by omega)
      have hle := ahd_le xs sub k
      have hm : k * (xs.length + 3) ≤ 3 * 1003 := Nat.mul_le_mul (by omega) (by omega)
      obtain ⟨g, hg⟩ : ∃ g : Int, g = (sub : Int) - ((k : Int) + 1) := ⟨_, rfl⟩
      have hgi : (sub : Int) - ((k : Int) + 1) = g := hg.symm
      have hg1 : -5 < g := by omega
      have hg2 : g < 4294967296 := by omega
      have hgw : IntKind.i64.wrap ((sub : Int) - ((k : Int) + 1)) = g := by rw [IntKind.wrap_i64]; omega
      have hnx : Hid (ahd xs sub (k + 1) = ahd xs sub k + pre3 g + cntIn xs g) := by
        have : ahd xs sub (k + 1) = ahd xs sub k + cnt xs ((sub : Int) - ((k + 1 : Nat) : Int)) := rfl
        rw [this, cnt_pre, show (sub : Int) - ((k + 1 : Nat) : Int) = g by omega]
        exact (Nat.add_assoc _ _ _).symm
      have hp3 := pre3_le g
      have hbb : ahd xs sub k ≤ 3009 := by omega
      generalize ahd xs sub k = b at hnx hbb
      clear hle hm hg
      obtain ⟨c, hc⟩ : ∃ c, c = b + pre3 g := ⟨_, rfl⟩
      have hcb : c ≤ 3012 := by omega
      rw [← hc] at hnx
      have h1 : CiRel w xs g c (.int .i64 0) (.int .u32 (c : Nat)) w := ⟨⟨0, by omega, rfl, by rw [List.take_zero]; rfl⟩, rfl⟩
      by_cases hg0 : g < 0
      · have hd : decide (g < 0) = true := decide_eq_true hg0
        have hb3 : (b : Int) + 3 = (c : Int) := by rw [hc]; unfold pre3; rw [if_pos hg0]; omega
        have hb3w : ((b : Int) + 3) % 4294967296 = (c : Int) := by omega
        clear hc
        go_wp2_with fail
        go_loopw [24, 5] (fun i n wq => CiRel w xs g c i n wq) (fun i _ _ => xs.length - (intOf i).toNat)
        case atStart => exact h1
        case round =>
          clear h1
          obtain ⟨⟨j, hj, rfl, rfl⟩, rfl⟩ := hrel
          by_cases hjl : j < xs.length
          · obtain ⟨G, o, rfl, hcl⟩ := HR.out.cell hjl
            have hst := Lib.hid (cntIn_take xs j hjl g)
            have hxb := getD_lt HT.out (by omega) j
            have hle := cntIn_le (xs.take j) g
            rw [List.length_take] at hle
            obtain ⟨x, hx⟩ : ∃ x : Nat, x = xs.getD j 0 := ⟨_, rfl⟩
            rw [← hx] at hcl hst hxb
            clear hx
            generalize cntIn (xs.take j) g = n at hst hle
            have ij : (j : Int) < (xs.length : Int) := by omega
            go_wp2_with fail
            refine (sub_nat x _ hxb).mono ?_
            rintro e w2 ⟨rfl, rfl⟩
            by_cases hq : ((x / 3 : Nat) : Int) = g
            · exact absurd hq (by omega)
            · have hq2 : (((x / 3 : Nat) : Int) == g) = false := beq_eq_false_iff_ne.2 hq
              rw [if_neg hq] at hst
              go_wp2_with fail
              go_roundw
              case rel => exact ⟨⟨j + 1, by omega, by go_num, by rw [hst.out]; rfl⟩, rfl⟩
              case measure => simp [intOf]; omega
          · obtain rfl : j = xs.length := by omega
            rw [List.take_length]
            go_wp2_with fail
            go_roundw
            case rel => exact ⟨⟨k + 1, by omega, by go_num, by rw [hnx.out]⟩, rfl⟩
            case measure => simp [intOf]; omega
      · have hd : decide (g < 0) = false := decide_eq_false hg0
        obtain rfl : c = b := by rw [hc]; unfold pre3; rw [if_neg hg0]; omega
        clear hc
        go_wp2_with fail
        go_loopw [24, 5] (fun i n wq => CiRel w xs g c i n wq) (fun i _ _ => xs.length - (intOf i).toNat)
        case atStart => exact h1
        case round =>
          clear h1
          obtain ⟨⟨j, hj, rfl, rfl⟩, rfl⟩ := hrel
          by_cases hjl : j < xs.length
          · obtain ⟨G, o, rfl, hcl⟩ := HR.out.cell hjl
            have hst := Lib.hid (cntIn_take xs j hjl g)
            have hxb := getD_lt HT.out (by omega) j
            have hle := cntIn_le (xs.take j) g
            rw [List.length_take] at hle
            obtain ⟨x, hx⟩ : ∃ x : Nat, x = xs.getD j 0 := ⟨_, rfl⟩
            rw [← hx] at hcl hst hxb
            clear hx
            generalize cntIn (xs.take j) g = n at hst hle
            have ij : (j : Int) < (xs.length : Int) := by omega
            go_wp2_with fail
            refine (sub_nat x _ hxb).mono ?_
            rintro e w2 ⟨rfl, rfl⟩
            by_cases hq : ((x / 3 : Nat) : Int) = g
            · have hq2 : (((x / 3 : Nat) : Int) == g) = true := by rw [hq]; simp
              rw [if_pos hq] at hst
              clear hgi hgw hq
              go_wp2_with fail
              go_roundw
              case rel => exact ⟨⟨j + 1, by omega, by go_num, by rw [hst.out]; congr 1⟩, rfl⟩
              case measure => simp [intOf]; omega
            · have hq2 : (((x / 3 : Nat) : Int) == g) = false := beq_eq_false_iff_ne.2 hq
              rw [if_neg hq] at hst
              go_wp2_with fail
              go_roundw
              case rel => exact ⟨⟨j + 1, by omega, by go_num, by rw [hst.out]; rfl⟩, rfl⟩
              case measure => simp [intOf]; omega
          · obtain rfl : j = xs.length := by omega
            rw [List.take_length]
            go_wp2_with fail
            go_roundw
            case rel => exact ⟨⟨k + 1, by omega, by go_num, by rw [hnx.out]⟩, rfl⟩
            case measure => simp [intOf]; omega
    · obtain rfl : k = 4 := by omega
      have ik : decide ((((4 : Nat) : Int)) + 1 ≤ 4) = false := by decide
      go_wp2_with fail
      go_ret
      exact ⟨rfl, rfl⟩
end Go.Proofs.Ytbbmjjphkmjnbaa.Wn
