/-
  RingFades, walked: the further off a sub-window, the fewer blocks are ahead of it. Over this seat's translation.
-/
import Derived.Test.YtihmfneoieoopaaRingLaws
namespace Go.Proofs.Ytihmfneoieoopaa.Rg
open Go.ChangeShapes Go.WideShapes Go.ChangeAt Go.RowKit Go.Proofs.Ytihmfneoieoopaa.Mem Go.Proofs.Ytihmfneoieoopaa.Bt
set_option linter.unusedVariables false
set_option linter.unusedSimpArgs false

theorem befN_at {L m : Nat} {cs : List Nat} (h : L < m) : befN L cs m = atG L cs ((m : Int) - 1) + atG L cs ((m : Int) - 2) + atG L cs ((m : Int) - 3) + atG L cs ((m : Int) - 4) := by
  unfold befN
  rw [if_neg (by omega), sumc_mvd]
  have e1 : ((m - 1 : Nat) : Int) = (m : Int) - 1 := by omega
  rw [e1, show (m : Int) - 1 - 1 = (m : Int) - 2 by omega, show (m : Int) - 1 - 2 = (m : Int) - 3 by omega, show (m : Int) - 1 - 3 = (m : Int) - 4 by omega]
theorem befN_next {L : Nat} {cs : List Nat} (hl : cs.length = 4) : befN L cs (L + 1) = sumc cs := by
  unfold befN
  rw [if_neg (by omega), Nat.add_sub_cancel, mvd_self hl]
theorem befN_less {L m : Nat} {cs : List Nat} (h : L < m) : befN L cs (m + 1) ≤ befN L cs m := by
  rw [befN_at h, befN_at (by omega), atG_out (g := ((m + 1 : Nat) : Int) - 1) (by omega)]
  rw [show ((m + 1 : Nat) : Int) - 2 = (m : Int) - 1 by omega, show ((m + 1 : Nat) : Int) - 3 = (m : Int) - 2 by omega, show ((m + 1 : Nat) : Int) - 4 = (m : Int) - 3 by omega]
  omega
theorem befN_none {L m : Nat} {cs : List Nat} (h : L + 4 < m) : befN L cs m = 0 := by
  rw [befN_at (by omega), atG_out (by omega), atG_out (by omega), atG_out (by omega), atG_out (by omega)]
theorem befN_le {L m : Nat} {cs : List Nat} (hs : Small cs) : befN L cs m ≤ 12 := by
  unfold befN
  split
  · omega
  · exact sumc_small (mvd_small hs)
theorem befE_ok {L m : Nat} (h : L < m) : befE L m = 0 := if_neg (by omega)
structure FdRel (w : World) (L : Nat) (cs : List Nat) (B : Nat) (i n : Value) (wr : World) : Prop where
  ex : ∃ k : Nat, 2 ≤ k ∧ k ≤ 9 ∧ i = .int .u32 (k : Int) ∧ n = .int .u32 (befN L cs (L + k - 1) : Nat)
  row : Row wr B 25 (rcs L cs)
  bel : Below w.heap.size w wr
set_option maxHeartbeats 2000000 in
set_option maxRecDepth 100000 in
theorem ringFades_any (L : Nat) (cs : List Nat) (w : World) (hL : L < 4294967296) (hl : cs.length = 4) :
    Calls Try.prog 5 #[.agg (rcs L cs).toArray] w fun e w' => e = .returned (.bool true) ∧ Below w.heap.size w w' := by
  have HL := Lib.hid hl
  obtain ⟨a, b, c, d, habcd⟩ := four hl
  have HCS := Lib.hid habcd
  clear hl habcd
  go_enter Try.func5, Try.ntmps5
  go_wp2_with (first
    | ((with_reducible refine at_slot 1 ?_); (refine arm_box (o := ⟨some 1, _, _, _, _, _⟩) rfl _ _ rfl (rcs L cs) rfl ?_); intro B w1 hBe hR1 hN1))
  refine (awake_any _).mono ?_
  rintro e w2 ⟨rfl, hB2⟩
  have hR2 := hR1.old hB2
  have bel2 : Below w.heap.size w w2 := below_step hN1.below hN1.below.size hB2
  clear hBe hR1 hN1 hB2
  clear w1
  go_wp2_with (first
    | ((with_reducible refine at_slot 10 ?_); (refine arm_load (o := ⟨some 10, _, _, _, _, _⟩) rfl _ _ rfl B 0 rfl (rcs L cs) (row_all hR2) (sz_ring' HL.out) ?_)))
  refine (rright_any L cs _ hL HL.out).mono ?_
  by_cases hv : Rt L cs
  · rw [decide_eq_true hv]
    rintro e w3 ⟨rfl, hB3⟩
    have hR3 := hR2.old hB3
    have bel3 := below_step bel2 bel2.size hB3
    clear hR2 bel2 hB3
    have HS := Lib.hid hv.1
    clear hv
    have cB3 := hR3.cell (rcs_get0 L cs)
    by_cases hbig : L ≤ 4294967286
    · have hd : decide ((4294967286 : Int) < (L : Int)) = false := decide_eq_false (by omega)
      obtain ⟨m, hm⟩ : ∃ m : Nat, m = L + 1 := ⟨_, rfl⟩
      have hm1 : (L : Int) + 1 = (m : Int) := by omega
      have hm2 : ((L : Int) + 1) % 4294967296 = (m : Int) := by omega
      have hmb : m < 4294967296 := by omega
      have HE : Hid (befE L m = 0) := befE_ok (by omega)
      have HN : Hid (befN L cs m = sumc cs) := by rw [hm]; exact befN_next HL.out
      have HM := Lib.hid hm
      clear hm
      go_wp2_with (first
        | ((with_reducible refine at_slot 19 ?_); (refine arm_load (o := ⟨some 19, _, _, _, _, _⟩) rfl _ _ rfl B 0 rfl (rcs L cs) (row_all hR3) (sz_ring' HL.out) ?_)))
      refine (before_any L m cs _ hL hmb HS.out HL.out).mono ?_
      rw [HE.out, HN.out]
      rintro e w4 ⟨rfl, hB4⟩
      have hR4 := hR3.old hB4
      have bel4 := below_step bel3 bel3.size hB4
      clear hR3 bel3 hB4 cB3
      go_wp2_with (first
        | ((with_reducible refine at_slot 30 ?_); (refine arm_want (.agg (rcs L cs).toArray) 30 rfl (by kernel_rfl) (run_op_load _ _ rfl B 0 rfl (rcs L cs) (row_all hR4) (sz_ring' HL.out)) ?_)))
      refine (sum_any L cs _ HS.out HL.out).mono ?_
      rintro e w5 ⟨rfl, hB5⟩
      have hR5 := hR4.old hB5
      have bel5 := below_step bel4 bel4.size hB5
      clear hR4 bel4 hB5
      have hne : ((sumc cs : Int) != (sumc cs : Int)) = false := by simp
      have h0 : FdRel w L cs B (.int .u32 2) (.int .u32 (sumc cs : Nat)) w5 := ⟨⟨2, by omega, by omega, rfl, by rw [show L + 2 - 1 = m by have := HM.out; omega, HN.out]⟩, hR5, bel5⟩
      clear HE HN HM hm1 hm2 hmb
      go_wp2_with fail
      go_loopw [5, 3] (fun i n wr => FdRel w L cs B i n wr) (fun i _ _ => 9 - (intOf i).toNat)
      case atStart => exact h0
      case round =>
        clear h0 hR5 bel5
        obtain ⟨⟨k, hk1, hk2, rfl, rfl⟩, hR, hbel⟩ := hrel
        by_cases hlt : k < 9
        · have ik : decide ((k : Int) < 9) = true := decide_eq_true (by omega)
          obtain ⟨m, hm⟩ : ∃ m : Nat, m = L + k := ⟨_, rfl⟩
          have hm1 : (L : Int) + (k : Int) = (m : Int) := by omega
          have hm2 : ((L : Int) + (k : Int)) % 4294967296 = (m : Int) := by omega
          have hmb : m < 4294967296 := by omega
          have HE : Hid (befE L m = 0) := befE_ok (by omega)
          have hls := befN_less (L := L) (m := L + k - 1) (cs := cs) (by omega)
          have hno : 4 < k → befN L cs m = 0 := fun h => befN_none (by omega)
          have hle := befN_le (L := L) (m := L + k - 1) HS.out
          have HNX : Hid (befN L cs (L + (k + 1) - 1) = befN L cs m) := by rw [show L + (k + 1) - 1 = m by omega]; exact rfl
          rw [show L + k - 1 + 1 = m by omega] at hls
          generalize befN L cs (L + k - 1) = p at hls hle
          have CBF := Lib.hid (before_any L m cs)
          generalize befN L cs m = n at hls hno CBF HNX
          have hnp : decide ((p : Int) < (n : Int)) = false := decide_eq_false (by omega)
          have HNO := Lib.hid hno
          clear hm hno
          have cB := hR.cell (rcs_get0 L cs)
          go_wp2_with (first
            | ((with_reducible refine at_slot 39 ?_); (refine arm_load (o := ⟨some 39, _, _, _, _, _⟩) rfl _ _ rfl B 0 rfl (rcs L cs) (row_all hR) (sz_ring' HL.out) ?_)))
          refine (CBF.out _ hL hmb HS.out HL.out).mono ?_
          rw [HE.out]
          rintro e w6 ⟨rfl, hB6⟩
          have hR6 := hR.old hB6
          have bel6 := below_step hbel hbel.size hB6
          clear hR hbel hB6 cB CBF HE
          by_cases hk4 : 4 < k
          · have ik4 : decide ((4 : Int) < (k : Int)) = true := decide_eq_true (by omega)
            obtain rfl := HNO.out hk4
            clear HNO
            go_wp2_with fail
            go_roundw
            case rel => exact ⟨⟨k + 1, by omega, by omega, by go_num, by rw [HNX.out]; rfl⟩, hR6, bel6⟩
            case measure => simp [intOf]; omega
          · have ik4 : decide ((4 : Int) < (k : Int)) = false := decide_eq_false (by omega)
            clear HNO
            go_wp2_with fail
            go_roundw
            case rel => exact ⟨⟨k + 1, by omega, by omega, by go_num, by rw [HNX.out]⟩, hR6, bel6⟩
            case measure => simp [intOf]; omega
        · obtain rfl : k = 9 := by omega
          have ik : decide (((9 : Nat) : Int) < 9) = false := by decide
          go_wp2_with fail
          go_ret
          exact ⟨rfl, hbel⟩
    · have hd : decide ((4294967286 : Int) < (L : Int)) = true := decide_eq_true (by omega)
      go_wp2_with fail
      go_ret
      exact ⟨rfl, bel3⟩
  · rw [decide_eq_false hv]
    rintro e w3 ⟨rfl, hB3⟩
    have bel3 := below_step bel2 bel2.size hB3
    clear hR2 bel2 hB3 hv
    go_wp2_with fail
    go_ret
    exact ⟨rfl, bel3⟩
end Go.Proofs.Ytihmfneoieoopaa.Rg
