/-
  The contracts of the document's answers for rings over this seat's translation.
-/
import Derived.Test.YtbbmjjphkmjnbaaRingPut
namespace Go.Proofs.Ytbbmjjphkmjnbaa.Rg
open Go.ChangeShapes Go.WideShapes Go.ChangeAt Go.RowKit Go.Proofs.Ytbbmjjphkmjnbaa.Mem Go.Proofs.Ytbbmjjphkmjnbaa.Bt
set_option linter.unusedVariables false
set_option linter.unusedSimpArgs false

theorem rgenesis_any (w : World) : Calls Try.prog 22 #[] w fun e w' => e = .returned (.agg (rcs 0 [1, 3, 3, 3]).toArray) ∧ Below w.heap.size w w' := by
  go_enter Try.func22, Try.ntmps22
  go_wp2_with (first
    | ((with_reducible refine at_slot 0 ?_); (refine arm_alloc (o := ⟨some 0, _, _, _, _, _⟩) rfl _ rfl (rcs 0 [0, 0, 0, 0]) z_rref ?_); intro R w1 hRe hR1 hN1)
    | ((with_reducible refine at_slot 1 ?_); (refine arm_build (o := ⟨some 1, _, _, _, _, _⟩) rfl _ _ rfl (u32s [1, 3, 3, 3]) (by kernel_rfl) ?_))
    | ((with_reducible refine at_slot 2 ?_); (refine arm_build (o := ⟨some 2, _, _, _, _, _⟩) rfl _ _ rfl (rcs 0 [1, 3, 3, 3]) (by kernel_rfl) ?_))
    | ((with_reducible refine arm_store (o := ⟨none, _, _, _, _, _⟩) rfl _ _ _ rfl R 0 rfl (rcs 0 [1, 3, 3, 3]) rfl _ _ hR1 (by rw [rcs_len rfl, rcs_len rfl]; omega) (rcs_one _ _) (sz_rref' rfl) ?_); intro w2 hR2 hO2 hS2))
  have eR := hRe.out
  refine bodyPost_ret (v := .agg (rcs 0 [1, 3, 3, 3]).toArray) (result_row (p := 0) (ty := 31) (u := 31) (by kernel_rfl) _ w2 R _ rfl (hR2.congr (lay_all _ _ (by rw [rcs_len rfl, rcs_len rfl]))) (sz_rref' rfl)) rfl ⟨rfl, below_only hN1.below hO2 (by omega) (by rw [hN1.size]; omega)⟩

/-! ### Right. -/
structure RrRel (w : World) (L : Nat) (cs : List Nat) (B : Nat) (i : Value) (wr : World) : Prop where
  ex : ∃ k : Nat, k ≤ 4 ∧ i = .int .i64 k ∧ ∀ j, j < k → cs.getD j 0 ≤ 3
  row : Row wr B 31 (rcs L cs)
  bel : Below w.heap.size w wr
set_option maxHeartbeats 1000000 in
set_option maxRecDepth 100000 in
theorem rright_any (L : Nat) (cs : List Nat) (w : World) (hL : L < 4294967296) (hl : cs.length = 4) :
    Calls Try.prog 21 #[.agg (rcs L cs).toArray] w fun e w' => e = .returned (.bool (decide (Rt L cs))) ∧ Below w.heap.size w w' := by
  have HL := Lib.hid hl; clear hl
  go_enter Try.func21, Try.ntmps21
  go_wp2_with (first
    | ((with_reducible refine at_slot 1 ?_); (refine arm_box (o := ⟨some 1, _, _, _, _, _⟩) rfl _ _ rfl (rcs L cs) rfl ?_); intro B w1 hBe hR1 hN1))
  have h0 : RrRel w L cs B (.int .i64 0) w1 := ⟨⟨0, by omega, rfl, fun j hj => by omega⟩, hR1, hN1.below⟩
  clear hBe hR1 hN1
  go_loopw [3] (fun i wr => RrRel w L cs B i wr) (fun i _ => 4 - (intOf i).toNat)
  case atStart => exact h0
  case round =>
    clear h0
    obtain ⟨⟨k, hk, rfl, hall⟩, hRB, hbel⟩ := hrel
    have HA := Lib.hid hall; clear hall
    by_cases hlt : k < 4
    · have cB := hRB.cell (rcs_get (L := L) (cs := cs) (i := k) (by rw [HL.out]; exact hlt))
      obtain ⟨x, hx⟩ : ∃ x : Nat, x = cs.getD k 0 := ⟨_, rfl⟩
      rw [← hx] at cB
      have HX := Lib.hid hx; clear hx
      have ik : (k : Int) < 4 := by omega
      by_cases hb : x ≤ 3
      · have hd : decide ((3 : Int) < (x : Int)) = false := decide_eq_false (by omega)
        go_wp2_with fail
        go_roundw
        case rel => exact ⟨⟨k + 1, by omega, by go_num, fun j hj => by
          rcases Nat.lt_or_ge j k with h | h
          · exact HA.out j h
          · obtain rfl : j = k := by omega
            rw [← HX.out]; exact hb⟩, hRB, hbel⟩
        case measure => simp [intOf]; omega
      · have hd : decide ((3 : Int) < (x : Int)) = true := decide_eq_true (by omega)
        have hv : Hid (decide (Rt L cs) = false) := decide_eq_false (fun h => hb (by rw [HX.out]; exact h.1 k hlt))
        go_wp2_with fail
        go_ret
        exact ⟨by rw [hv.out]; rfl, hbel⟩
    · obtain rfl : k = 4 := by omega
      have hj : L % 4 < 4 := by omega
      have hjj : ((L : Int) % 4) = ((L % 4 : Nat) : Int) := by omega
      have hv : Hid (decide (Rt L cs) = decide ((1 : Int) ≤ ((cs.getD (L % 4) 0 : Nat) : Int))) := decide_eq_decide.2 ⟨fun h => by have := h.2; omega, fun h => ⟨fun i hi => HA.out i hi, by omega⟩⟩
      generalize L % 4 = j at hj hjj hv
      have cB := hRB.cell (rcs_get (L := L) (cs := cs) (i := j) (by rw [HL.out]; exact hj))
      have cB0 := hRB.cell (rcs_get0 L cs)
      generalize cs.getD j 0 = x at cB hv
      have ij : (j : Int) < 4 := by omega
      go_wp2_with fail
      go_ret
      exact ⟨by rw [hv.out]; rfl, hbel⟩

/-! ### of. -/
structure OfRel (w : World) (L p : Nat) (i : Value) (wr : World) : Prop where
  ex : ∃ g : Int, i = .int .i64 g ∧ lat L p ≤ g ∧ g ≤ L
  bel : Below w.heap.size w wr
theorem tmod4 (g : Int) : ((g.tmod 4 + 4).tmod 4) = g % 4 := by
  rcases Int.le_total 0 g with h | h
  · rw [Int.tmod_eq_emod_of_nonneg h, Int.tmod_eq_emod_of_nonneg (by omega)]; omega
  · have : g.tmod 4 = -((-g) % 4) := by rw [← Int.tmod_eq_emod_of_nonneg (by omega : 0 ≤ -g), Int.neg_tmod]; omega
    rw [this, Int.tmod_eq_emod_of_nonneg (by omega)]; omega
theorem tmod_bd (g : Int) : -4 < g.tmod 4 ∧ g.tmod 4 < 4 := by
  rcases Int.le_total 0 g with h | h
  · rw [Int.tmod_eq_emod_of_nonneg h]; omega
  · have : g.tmod 4 = -((-g) % 4) := by rw [← Int.tmod_eq_emod_of_nonneg (by omega : 0 ≤ -g), Int.neg_tmod]; omega
    rw [this]; omega
set_option maxHeartbeats 1000000 in
set_option maxRecDepth 100000 in
theorem of_any (L p : Nat) (cs : List Nat) (w : World) (hL : L < 4294967296) (hp : p < 4) (hl : cs.length = 4) :
    Calls Try.prog 36 #[.agg (rcs L cs).toArray, .int .i64 (p : Int)] w fun e w' => e = .returned (.int .i64 (lat L p)) ∧ Below w.heap.size w w' := by
  have HL := Lib.hid hl; clear hl
  go_enter Try.func36, Try.ntmps36
  go_wp2_with (first
    | ((with_reducible refine at_slot 2 ?_); (refine arm_box (o := ⟨some 2, _, _, _, _, _⟩) rfl _ _ rfl (rcs L cs) rfl ?_); intro B w1 hBe hR1 hN1; have cB := hR1.cell (rcs_get0 L cs)))
  have h0 : OfRel w L p (.int .i64 L) w1 := ⟨⟨L, rfl, lat_le _ _, by omega⟩, hN1.below⟩
  clear cB hBe hR1 hN1
  go_loopw [5] (fun i wr => OfRel w L p i wr) (fun i _ => (intOf i - lat L p).toNat)
  case atStart => exact h0
  case round =>
    clear h0
    obtain ⟨⟨g, rfl, hg1, hg2⟩, hbel⟩ := hrel
    have hg3 := lat_gt L p
    have hgm := lat_mod (L : Int) hp
    have hgo := fun h => lat_of (L : Int) g p (by omega) hg2 h
    obtain ⟨l, hll⟩ : ∃ l : Int, l = lat L p := ⟨_, rfl⟩
    rw [← hll] at hg1 hg3 hgm hgo
    have HLL := Lib.hid hll; have HGM := Lib.hid hgm; have HGO := Lib.hid hgo; clear hll hgm hgo
    have htm := tmod4 g
    have hr := tmod_bd g
    by_cases hq : g % 4 = (p : Int)
    · have hne : (g % 4 != (p : Int)) = false := by rw [hq]; simp
      go_wp2_with fail
      go_ret
      exact ⟨by rw [← HLL.out, HGO.out hq]; rfl, hbel⟩
    · have hne : (g % 4 != (p : Int)) = true := bne_iff_ne.2 hq
      have hlg : l < g := by
        rcases Int.lt_or_le l g with h | h
        · exact h
        · have : l = g := by omega
          subst this
          exact absurd HGM.out hq
      go_wp2_with fail
      go_roundw
      case rel => exact ⟨⟨g - 1, rfl, by rw [← HLL.out]; omega, by omega⟩, hbel⟩
      case measure => rw [← HLL.out]; simp [intOf]; omega
/-! ### At. -/
structure AtRel (w : World) (L : Nat) (cs : List Nat) (g : Int) (B : Nat) (i : Value) (wr : World) : Prop where
  ex : ∃ k : Nat, k ≤ 4 ∧ i = .int .i64 k ∧ ∀ j, j < k → lat L j ≠ g
  row : Row wr B 31 (rcs L cs)
  bel : Below w.heap.size w wr
theorem atG_none {L : Nat} {cs : List Nat} {g : Int} (h : ∀ j, j < 4 → lat L j ≠ g) : atG L cs g = 0 := by
  unfold atG
  split
  · rename_i hc
    exact absurd (lat_of (L : Int) g (g % 4).toNat hc.1 hc.2 (by omega)) (h _ (by omega))
  · rfl
set_option maxHeartbeats 1000000 in
set_option maxRecDepth 100000 in
theorem at_any (L : Nat) (cs : List Nat) (g : Int) (w : World) (hL : L < 4294967296) (hl : cs.length = 4) :
    Calls Try.prog 35 #[.agg (rcs L cs).toArray, .int .i64 g] w fun e w' => e = .returned (.int .u32 (atG L cs g : Nat)) ∧ Below w.heap.size w w' := by
  have HL := Lib.hid hl; clear hl
  go_enter Try.func35, Try.ntmps35
  go_wp2_with (first
    | ((with_reducible refine at_slot 2 ?_); (refine arm_box (o := ⟨some 2, _, _, _, _, _⟩) rfl _ _ rfl (rcs L cs) rfl ?_); intro B w1 hBe hR1 hN1))
  have h0 : AtRel w L cs g B (.int .i64 0) w1 := ⟨⟨0, by omega, rfl, fun j hj => by omega⟩, hR1, hN1.below⟩
  clear hBe hR1 hN1
  go_loopw [5] (fun i wr => AtRel w L cs g B i wr) (fun i _ => 4 - (intOf i).toNat)
  case atStart => exact h0
  case round =>
    clear h0
    obtain ⟨⟨k, hk, rfl, hall⟩, hRB, hbel⟩ := hrel
    have HA := Lib.hid hall; clear hall
    by_cases hlt : k < 4
    · have ik : (k : Int) < 4 := by omega
      go_wp2_with (first
        | ((with_reducible refine at_slot 10 ?_); (refine arm_load (o := ⟨some 10, _, _, _, _, _⟩) rfl _ _ rfl B 0 rfl (rcs L cs) (row_all hRB) (sz_rref' HL.out) ?_)))
      refine (of_any L k cs _ hL hlt HL.out).mono ?_
      rintro e w2 ⟨rfl, hB2⟩
      have hRB2 := hRB.old hB2
      have bel2 : Below w.heap.size w w2 := below_step hbel hbel.size hB2
      have cB := hRB2.cell (rcs_get (L := L) (cs := cs) (i := k) (by rw [HL.out]; exact hlt))
      obtain ⟨l, hll⟩ : ∃ l : Int, l = lat L k := ⟨_, rfl⟩
      rw [← hll]
      have HLL := Lib.hid hll; clear hll hRB hbel hB2
      by_cases hq : l = g
      · have heq : (l == g) = true := by rw [hq]; simp
        have hv : Hid (atG L cs g = cs.getD k 0) := by
          have := atG_lat L cs hlt
          rw [← HLL.out, hq] at this
          exact this
        go_wp2_with fail
        go_ret
        exact ⟨by rw [hv.out]; rfl, bel2⟩
      · have heq : (l == g) = false := beq_eq_false_iff_ne.2 hq
        go_wp2_with fail
        go_roundw
        case rel => exact ⟨⟨k + 1, by omega, by go_num, fun j hj => by
          rcases Nat.lt_or_ge j k with h | h
          · exact HA.out j h
          · obtain rfl : j = k := by omega
            rw [← HLL.out]; exact hq⟩, hRB2, bel2⟩
        case measure => simp [intOf]; omega
    · obtain rfl : k = 4 := by omega
      have hv : Hid (atG L cs g = 0) := atG_none (fun j hj => HA.out j hj)
      go_wp2_with fail
      go_ret
      exact ⟨by rw [hv.out]; rfl, hbel⟩
/-! ### Sum. -/
/-! ### Before. -/
def bsum (L : Nat) (cs : List Nat) (sub : Nat) : Nat → Nat
  | 0 => 0
  | k + 1 => bsum L cs sub k + atG L cs ((sub : Int) - ((k + 1 : Nat) : Int))
theorem bsum_le {L : Nat} {cs : List Nat} (h : Small cs) (sub k : Nat) : bsum L cs sub k ≤ 3 * k := by
  induction k with
  | zero => exact Nat.le_refl _
  | succ k ih => unfold bsum; have := atG_small (L := L) h ((sub : Int) - ((k + 1 : Nat) : Int)); omega
theorem bsum_all {L sub : Nat} {cs : List Nat} (h : L < sub) : bsum L cs sub 4 = sumc (mvd L cs (sub - 1)) := by
  rw [sumc_mvd]
  simp only [bsum]
  have e1 : ((sub - 1 : Nat) : Int) = (sub : Int) - ((0 + 1 : Nat) : Int) := by omega
  have e2 : ((sub - 1 : Nat) : Int) - 1 = (sub : Int) - ((1 + 1 : Nat) : Int) := by omega
  have e3 : ((sub - 1 : Nat) : Int) - 2 = (sub : Int) - ((2 + 1 : Nat) : Int) := by omega
  have e4 : ((sub - 1 : Nat) : Int) - 3 = (sub : Int) - ((3 + 1 : Nat) : Int) := by omega
  rw [e2, e3, e4, e1]
  omega
structure BfRel (w : World) (L : Nat) (cs : List Nat) (sub B : Nat) (i n : Value) (wr : World) : Prop where
  ex : ∃ k : Nat, k ≤ 4 ∧ i = .int .i64 ((k : Int) + 1) ∧ n = .int .u32 (bsum L cs sub k : Nat)
  row : Row wr B 31 (rcs L cs)
  bel : Below w.heap.size w wr
set_option maxHeartbeats 1000000 in
set_option maxRecDepth 100000 in
theorem rbefore_any (L sub : Nat) (cs : List Nat) (w : World) (hL : L < 4294967296) (hb : sub < 4294967296) (hs : Small cs) (hl : cs.length = 4) :
    Calls Try.prog 27 #[.agg (rcs L cs).toArray, .int .u32 (sub : Int)] w fun e w' => e = .returned (.tuple #[.int .u32 (befN L cs sub : Nat), .int .i64 (befE L sub)]) ∧ Below w.heap.size w w' := by
  have HL := Lib.hid hl; have HS := Lib.hid hs; clear hl hs
  by_cases h : sub ≤ L
  · have hd : decide ((sub : Int) ≤ (L : Int)) = true := decide_eq_true (by omega)
    have hN : Hid (befN L cs sub = 0) := if_pos h
    have hE : Hid (befE L sub = 6) := if_pos h
    go_enter Try.func27, Try.ntmps27
    go_wp2_with (first
      | ((with_reducible refine at_slot 2 ?_); (refine arm_box (o := ⟨some 2, _, _, _, _, _⟩) rfl _ _ rfl (rcs L cs) rfl ?_); intro B w1 hBe hR1 hN1; have cB := hR1.cell (rcs_get0 L cs)))
    go_ret2
    exact ⟨by rw [hN.out, hE.out]; rfl, hN1.below⟩
  · have hd : decide ((sub : Int) ≤ (L : Int)) = false := decide_eq_false (by omega)
    have hN : Hid (befN L cs sub = bsum L cs sub 4) := by unfold befN Hid; rw [if_neg h, bsum_all (by omega)]
    have hE : Hid (befE L sub = 0) := if_neg h
    go_enter Try.func27, Try.ntmps27
    go_wp2_with (first
      | ((with_reducible refine at_slot 2 ?_); (refine arm_box (o := ⟨some 2, _, _, _, _, _⟩) rfl _ _ rfl (rcs L cs) rfl ?_); intro B w1 hBe hR1 hN1; have cB := hR1.cell (rcs_get0 L cs)))
    have h0 : BfRel w L cs sub B (.int .i64 1) (.int .u32 0) w1 := ⟨⟨0, by omega, rfl, rfl⟩, hR1, hN1.below⟩
    clear hBe hR1 hN1 cB
    go_loopw [7, 6] (fun i n wr => BfRel w L cs sub B i n wr) (fun i _ _ => 5 - (intOf i).toNat)
    case atStart => exact h0
    case round =>
      clear h0
      obtain ⟨⟨k, hk, rfl, rfl⟩, hRB, hbel⟩ := hrel
      by_cases hlt : k < 4
      · have ik : decide ((k : Int) + 1 ≤ 4) = true := decide_eq_true (by omega)
        have hle := bsum_le HS.out (L := L) sub k
        have hx3 := atG_small HS.out (L := L) ((sub : Int) - ((k : Int) + 1))
        have hst : Hid (bsum L cs sub (k + 1) = bsum L cs sub k + atG L cs ((sub : Int) - ((k : Int) + 1))) := rfl
        generalize bsum L cs sub k = n at hle hst
        go_wp2_with (first
          | ((with_reducible refine at_slot 17 ?_); (refine arm_load (o := ⟨some 17, _, _, _, _, _⟩) rfl _ _ rfl B 0 rfl (rcs L cs) (row_all hRB) (sz_rref' HL.out) ?_)))
        refine (at_any L cs ((sub : Int) - ((k : Int) + 1)) _ hL HL.out).mono ?_
        rintro e w2 ⟨rfl, hB2⟩
        have hRB2 := hRB.old hB2
        have bel2 : Below w.heap.size w w2 := below_step hbel hbel.size hB2
        generalize atG L cs ((sub : Int) - ((k : Int) + 1)) = x at hx3 hst ⊢
        clear hRB hbel hB2
        go_wp2_with fail
        go_roundw
        case rel => exact ⟨⟨k + 1, by omega, by go_num, by rw [hst.out]; congr 1⟩, hRB2, bel2⟩
        case measure => simp [intOf]; omega
      · obtain rfl : k = 4 := by omega
        have ik : decide (((4 : Nat) : Int) + 1 ≤ 4) = false := by decide
        have ik2 : decide ((4 : Int) + 1 ≤ 4) = false := by decide
        go_wp2_with fail
        go_ret2
        exact ⟨by rw [hN.out, hE.out]; rfl, hbel⟩
end Go.Proofs.Ytbbmjjphkmjnbaa.Rg
