/-
  The contract of layer 10's counted: how many of some slots are in a sub-window. Over this seat's translation.
-/
import Derived.Test.YtmohlcmhogbkjaaDoorRingHist
namespace Go.Proofs.YtmohlcmhogbkjaaDoor.Rg
open Go.ChangeShapes Go.WideShapes Go.ChangeAt Go.RowKit Go.Proofs.YtmohlcmhogbkjaaDoor.Mem Go.Proofs.YtmohlcmhogbkjaaDoor.Bt Go.Proofs.YtmohlcmhogbkjaaDoor.Wd
set_option linter.unusedVariables false
set_option linter.unusedSimpArgs false

set_option maxHeartbeats 1000000 in
set_option maxRecDepth 100000 in
theorem counted10_any (xs : List Nat) (p : Option Addr) (cap : Nat) (g : Int) (w : World) (hr : R32 w p xs) (ht : AllLt 4294967296 xs) (hn : xs.length ≤ 1000) :
    Calls Tryd.prog 18 #[.slice p xs.length cap, .int .i64 g] w fun e w' => e = .returned (.int .u32 (cnt xs g : Nat)) ∧ w = w' := by
  have HR := Lib.hid hr; have HT := Lib.hid ht; clear hr ht
  by_cases hg : g < 0
  · have hd : decide (g < 0) = true := decide_eq_true hg
    have HC : Hid (cnt xs g = 3) := if_pos hg
    go_enter Tryd.func18, Tryd.ntmps18
    go_wp2_with fail
    go_ret
    exact ⟨by rw [HC.out]; rfl, rfl⟩
  · have hd : decide (g < 0) = false := decide_eq_false hg
    have HC : Hid (cnt xs g = cntIn xs g) := if_neg hg
    have h0 : CnRel w xs g (.int .i64 0) (.int .u32 0) w := ⟨⟨0, by omega, rfl, rfl⟩, rfl⟩
    go_enter Tryd.func18, Tryd.ntmps18
    go_wp2_with fail
    go_loopw [12, 5] (fun i n wr => CnRel w xs g i n wr) (fun i _ _ => xs.length - (intOf i).toNat)
    case atStart => exact h0
    case round =>
      clear h0
      obtain ⟨⟨k, hk, rfl, rfl⟩, rfl⟩ := hrel
      by_cases hlt : k < xs.length
      · obtain ⟨G, o, rfl, hc⟩ := HR.out.cell hlt
        have hst := Lib.hid (cntIn_take xs k hlt g)
        have hxb := getD_lt HT.out (by omega) k
        have hle := cntIn_le (xs.take k) g
        rw [List.length_take] at hle
        obtain ⟨x, hx⟩ : ∃ x : Nat, x = xs.getD k 0 := ⟨_, rfl⟩
        rw [← hx] at hc hst hxb
        clear hx
        generalize cntIn (xs.take k) g = n at hst hle
        have ik : (k : Int) < (xs.length : Int) := by omega
        go_wp2_with fail
        refine (Slot.rsub_any (x : Int) _ (by omega) (by omega)).mono ?_
        rintro e w2 ⟨rfl, rfl⟩
        by_cases hq : ((x / 3 : Nat) : Int) = g
        · have hq1 : ((x : Int) / 3) = g := by omega
          have hq2 : ((x : Int) / 3 == g) = true := by rw [hq1]; simp
          rw [if_pos hq] at hst
          go_wp2_with fail
          go_roundw
          case rel => exact ⟨⟨k + 1, by omega, by go_num, by rw [hst.out]; congr 1⟩, rfl⟩
          case measure => simp [intOf]; omega
        · have hq2 : ((x : Int) / 3 == g) = false := beq_eq_false_iff_ne.2 (by omega)
          rw [if_neg hq] at hst
          go_wp2_with fail
          go_roundw
          case rel => exact ⟨⟨k + 1, by omega, by go_num, by rw [hst.out]; rfl⟩, rfl⟩
          case measure => simp [intOf]; omega
      · obtain rfl : k = xs.length := by omega
        rw [List.take_length]
        go_wp2_with fail
        go_ret
        exact ⟨by rw [HC.out]; rfl, rfl⟩
end Go.Proofs.YtmohlcmhogbkjaaDoor.Rg
