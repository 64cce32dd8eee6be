/-
  The contracts of package ring's Sum, Before and Put over this seat's translation.
-/
import Derived.Test.YtbbmjjphkmjnbaaRing
namespace Go.Proofs.Ytbbmjjphkmjnbaa.Rg
open Go.ChangeShapes Go.WideShapes Go.ChangeAt Go.RowKit Go.Proofs.Ytbbmjjphkmjnbaa.Mem Go.Proofs.Ytbbmjjphkmjnbaa.Bt
set_option linter.unusedVariables false
set_option linter.unusedSimpArgs false

/-- The first k counts together. -/
def ps (k : Nat) (cs : List Nat) : Nat := (cs.take k).sum
theorem ps_step {k : Nat} {cs : List Nat} (h : cs.length = 4) (hk : k < 4) : ps (k + 1) cs = ps k cs + cs.getD k 0 := by
  obtain ⟨a, b, c, d, rfl⟩ := four h
  obtain rfl | rfl | rfl | rfl : k = 0 ∨ k = 1 ∨ k = 2 ∨ k = 3 := by omega
  all_goals simp [ps]
  all_goals omega
theorem ps_all {cs : List Nat} (h : cs.length = 4) : ps 4 cs = sumc cs := by
  obtain ⟨a, b, c, d, rfl⟩ := four h
  simp [ps, sumc]
  omega
theorem ps_le {cs : List Nat} (h : cs.length = 4) (hs : Small cs) {k : Nat} (hk : k ≤ 4) : ps k cs ≤ 12 := by
  have hs0 := hs 0 (by omega); have hs1 := hs 1 (by omega); have hs2 := hs 2 (by omega); have hs3 := hs 3 (by omega)
  obtain ⟨a, b, c, d, rfl⟩ := four h
  simp only [List.getD_cons_zero, List.getD_cons_succ] at hs0 hs1 hs2 hs3
  obtain rfl | rfl | rfl | rfl | rfl : k = 0 ∨ k = 1 ∨ k = 2 ∨ k = 3 ∨ k = 4 := by omega
  all_goals simp [ps]
  all_goals omega
structure SmRel (w : World) (L : Nat) (cs : List Nat) (B : Nat) (i s : Value) (wr : World) : Prop where
  ex : ∃ k : Nat, k ≤ 4 ∧ i = .int .i64 k ∧ s = .int .u32 (ps k cs : Nat)
  bel : Below w.heap.size w wr
set_option maxHeartbeats 1000000 in
set_option maxRecDepth 100000 in
theorem sum_any (L : Nat) (cs : List Nat) (w : World) (hs : Small cs) (hl : cs.length = 4) :
    Calls Try.prog 33 #[.agg (rcs L cs).toArray] w fun e w' => e = .returned (.int .u32 (sumc cs : Nat)) ∧ Below w.heap.size w w' := by
  have HL := Lib.hid hl; have HS := Lib.hid hs; clear hl hs
  go_enter Try.func33, Try.ntmps33
  go_wp2_with (first
    | ((with_reducible refine at_slot 1 ?_); (refine arm_box (o := ⟨some 1, _, _, _, _, _⟩) rfl _ _ rfl (rcs L cs) rfl ?_); intro B w1 hBe hR1 hN1)
    | ((with_reducible refine at_slot 7 ?_); (refine arm_load (o := ⟨some 7, _, _, _, _, _⟩) rfl _ _ rfl B 1 rfl (u32s cs) (row_counts hR1) (sz_arr' HL.out) ?_)))
  have h0 : SmRel w L cs B (.int .i64 0) (.int .u32 0) w1 := ⟨⟨0, by omega, rfl, rfl⟩, hN1.below⟩
  clear hBe hR1 hN1
  go_loopw [8, 3] (fun i s wr => SmRel w L cs B i s wr) (fun i _ _ => 4 - (intOf i).toNat)
  case atStart => exact h0
  case round =>
    clear h0
    obtain ⟨⟨k, hk, rfl, rfl⟩, hbel⟩ := hrel
    by_cases hlt : k < 4
    · have hst := ps_step HL.out hlt
      have hple := ps_le HL.out HS.out hk
      have hx3 := HS.out k hlt
      have hxg := u32s_get (l := cs) (i := k) (by rw [HL.out]; exact hlt)
      obtain ⟨x, hx⟩ : ∃ x : Nat, x = cs.getD k 0 := ⟨_, rfl⟩
      rw [← hx] at hst hx3 hxg
      clear hx
      have HXG := Lib.hid hxg; have HST := Lib.hid hst; clear hxg hst
      obtain ⟨p, hp⟩ : ∃ p : Nat, p = ps k cs := ⟨_, rfl⟩
      rw [← hp] at hple HST ⊢
      have HPP := Lib.hid hp; clear hp
      have ik : (k : Int) < 4 := by omega
      go_wp2_with (first
        | ((with_reducible refine at_slot 10 ?_); (refine arm_index (o := ⟨some 10, _, _, _, _, _⟩) rfl _ _ _ rfl 4 22 (by kernel_rfl) .u32 (by kernel_rfl) (by kernel_rfl) (u32s cs) rfl .i64 k rfl hlt _ HXG.out ?_)))
      go_roundw
      case rel => exact ⟨⟨k + 1, by omega, by go_num, by rw [HST.out]; congr 1⟩, hbel⟩
      case measure => simp [intOf]; omega
    · obtain rfl : k = 4 := by omega
      go_wp2_with fail
      go_ret
      exact ⟨by rw [ps_all HL.out]; rfl, hbel⟩
/-! ### Before. -/
/-- How many blocks are ahead, and why not. -/
def befN (L : Nat) (cs : List Nat) (sub : Nat) : Nat := if sub ≤ L then 0 else sumc (mvd L cs (sub - 1))
def befE (L sub : Nat) : Int := if sub ≤ L then 6 else 0
set_option maxHeartbeats 1000000 in
set_option maxRecDepth 100000 in
theorem before_any (L sub : Nat) (cs : List Nat) (w : World) (hL : L < 4294967296) (hb : sub < 4294967296) (hs : Small cs) (hl : cs.length = 4) :
    Calls Try.prog 25 #[.agg (rcs L cs).toArray, .int .u32 (sub : Int)] w fun e w' => e = .returned (.tuple #[.int .u32 (befN L cs sub : Nat), .int .i64 (befE L sub)]) ∧ Below w.heap.size w w' := by
  have HL := Lib.hid hl; have HS := Lib.hid hs; clear hl hs
  by_cases h : sub ≤ L
  · have hd : decide ((sub : Int) ≤ (L : Int)) = true := decide_eq_true (by omega)
    have hN : Hid (befN L cs sub = 0) := if_pos h
    have hE : Hid (befE L sub = 6) := if_pos h
    go_enter Try.func25, Try.ntmps25
    go_wp2_with (first
      | ((with_reducible refine at_slot 2 ?_); (refine arm_box (o := ⟨some 2, _, _, _, _, _⟩) rfl _ _ rfl (rcs L cs) rfl ?_); intro B w1 hBe hR1 hN1; have cB := hR1.cell (rcs_get0 L cs)))
    go_ret2
    exact ⟨by rw [hN.out, hE.out]; rfl, hN1.below⟩
  · have hd : decide ((sub : Int) ≤ (L : Int)) = false := decide_eq_false (by omega)
    obtain ⟨m, hm⟩ : ∃ m : Nat, m = sub - 1 := ⟨_, rfl⟩
    have hm1 : (sub : Int) - 1 = (m : Int) := by omega
    have hm2 : ((sub : Int) - 1) % 4294967296 = (m : Int) := by omega
    have hLm : L ≤ m := by omega
    have hmb : m < 4294967296 := by omega
    have hN0 : befN L cs sub = sumc (mvd L cs m) := by unfold befN; rw [if_neg h, hm]
    have hE0 : befE L sub = 0 := if_neg h
    rw [hE0]
    generalize befN L cs sub = nn at hN0 ⊢
    have hN := Lib.hid hN0
    clear hm hN0 hE0
    go_enter Try.func25, Try.ntmps25
    go_wp2_with (first
      | ((with_reducible refine at_slot 2 ?_); (refine arm_box (o := ⟨some 2, _, _, _, _, _⟩) rfl _ _ rfl (rcs L cs) rfl ?_); intro B w1 hBe hR1 hN1; have cB := hR1.cell (rcs_get0 L cs))
      | ((with_reducible refine at_slot 10 ?_); (refine arm_load (o := ⟨some 10, _, _, _, _, _⟩) rfl _ _ rfl B 0 rfl (rcs L cs) (row_all hR1) (sz_ring' HL.out) ?_)))
    refine (moved_any L m cs _ hLm hmb HL.out).mono ?_
    rintro e w2 ⟨rfl, hB2⟩
    have bel2 := below_step hN1.below hN1.below.size hB2
    clear hB2 cB hR1 hN1 hBe
    clear w1
    go_wp2_with fail
    refine (sum_any m (mvd L cs m) _ (mvd_small HS.out) (mvd_len _ _ _)).mono ?_
    rintro e w3 ⟨rfl, hB3⟩
    rw [← hN.out]
    have bel3 := below_step bel2 bel2.size hB3
    go_wp2_with fail
    go_ret2
    exact ⟨rfl, bel3⟩
/-! ### Put. -/
set_option maxHeartbeats 1000000 in
set_option maxRecDepth 100000 in
theorem put_early (L sub : Nat) (cs : List Nat) (w : World) (h : sub < L) (hl : cs.length = 4) :
    Calls Try.prog 30 #[.agg (rcs L cs).toArray, .int .u32 (sub : Int)] w fun e w' => e = .returned (.tuple #[.agg (rcs 0 [0, 0, 0, 0]).toArray, .int .i64 6]) ∧ Below w.heap.size w w' := by
  have HL := Lib.hid hl; clear hl
  have hd : decide ((sub : Int) < (L : Int)) = true := decide_eq_true (by omega)
  go_enter Try.func30, Try.ntmps30
  go_wp2_with (first
    | ((with_reducible refine at_slot 2 ?_); (refine arm_box (o := ⟨some 2, _, _, _, _, _⟩) rfl _ _ rfl (rcs L cs) rfl ?_); intro B w1 hBe hR1 hN1)
    | ((with_reducible refine at_slot 4 ?_); (refine arm_alloc (o := ⟨some 4, _, _, _, _, _⟩) rfl _ rfl (rcs 0 [0, 0, 0, 0]) z_ring ?_); intro R w2 hRe hR2 hN2; have cB := (hR1.old hN2.below).cell (rcs_get0 L cs))
    | ((with_reducible refine at_slot 12 ?_); (refine arm_build (o := ⟨some 12, _, _, _, _, _⟩) rfl _ _ rfl (rcs 0 [0, 0, 0, 0]) (by kernel_rfl) ?_))
    | ((with_reducible refine arm_store (o := ⟨none, _, _, _, _, _⟩) rfl _ _ _ rfl R 0 rfl (rcs 0 [0, 0, 0, 0]) rfl _ _ hR2 (by rw [z_len]; omega) (rcs_one _ _) (sz_ring' rfl) ?_); intro w3 hR3 hO3 hS3))
  have eR := hRe.out; have s1 := hN1.size; have s2 := hN2.size
  refine bodyPost_ret (v := .tuple #[.agg (rcs 0 [0, 0, 0, 0]).toArray, .int .i64 6]) (result_row2 (p := 4) (u := 5) (ty := 25) (t := 25) (by kernel_rfl) _ w3 R _ _ rfl rfl (hR3.congr (lay_all _ _ rfl)) (sz_ring' rfl)) rfl ⟨rfl, below_only (below_step hN1.below (by omega) hN2.below) hO3 (by omega) (by omega)⟩
theorem mvd_at {L s : Nat} {cs : List Nat} : (mvd L cs s).getD (s % 4) 0 = atG L cs s := by
  rw [mvd_getD _ _ _ (by omega), lat_of (s : Int) s _ (by omega) (by omega) (by omega)]
set_option maxHeartbeats 1000000 in
set_option maxRecDepth 100000 in
theorem put_full (L sub : Nat) (cs : List Nat) (w : World) (h : L ≤ sub) (hb : sub < 4294967296) (hf : atG L cs sub = 3) (hl : cs.length = 4) :
    Calls Try.prog 30 #[.agg (rcs L cs).toArray, .int .u32 (sub : Int)] w fun e w' => e = .returned (.tuple #[.agg (rcs 0 [0, 0, 0, 0]).toArray, .int .i64 11]) ∧ Below w.heap.size w w' := by
  have HL := Lib.hid hl; clear hl
  have hd : decide ((sub : Int) < (L : Int)) = false := decide_eq_false (by omega)
  have HM := Lib.hid (moved_any L sub cs)
  have hml := mvd_len L cs sub
  have hat := mvd_at (L := L) (s := sub) (cs := cs)
  have hpd : Hid ((mvd L cs sub).set (sub % 4) (atG L cs sub + 1) = putd L cs sub) := rfl
  have HPL := Lib.hid (putd_len L cs sub)
  generalize putd L cs sub = pd at hpd HPL ⊢
  generalize atG L cs sub = x at hat hf hpd
  generalize mvd L cs sub = ds at HM hml hat hpd
  have HML := Lib.hid hml; have HAT := Lib.hid hat; clear hml hat
  subst hf
  go_enter Try.func30, Try.ntmps30
  go_wp2_with (first
    | ((with_reducible refine at_slot 2 ?_); (refine arm_box (o := ⟨some 2, _, _, _, _, _⟩) rfl _ _ rfl (rcs L cs) rfl ?_); intro B w1 hBe hR1 hN1)
    | ((with_reducible refine at_slot 4 ?_); (refine arm_alloc (o := ⟨some 4, _, _, _, _, _⟩) rfl _ rfl (rcs 0 [0, 0, 0, 0]) z_ring ?_); intro R w2 hRe hR2 hN2; have cB := (hR1.old hN2.below).cell (rcs_get0 L cs))
    | ((with_reducible refine at_slot 13 ?_); (refine arm_load (o := ⟨some 13, _, _, _, _, _⟩) rfl _ _ rfl B 0 rfl (rcs L cs) (row_all (hR1.old hN2.below)) (sz_ring' HL.out) ?_)))
  refine (HM.out _ h hb HL.out).mono ?_
  rintro e w3 ⟨rfl, hB3⟩
  have eR := hRe.out; have s1 := hN1.size; have s2 := hN2.size; have s3 := hB3.size
  have bel3 : Below w.heap.size w w3 := below_step (below_step hN1.below (by omega) hN2.below) (by omega) hB3
  have hRR3 := hR2.old hB3
  have lR : w.heap.size ≤ R := by omega
  have ltR : R < w3.heap.size := by omega
  have LTR := Lib.hid ltR; clear ltR
  clear eR s1 s2 s3 hBe hRe hR1 hN1 hN2 hR2 hB3 cB
  clear w1 w2
  go_wp2_with (first
    | ((with_reducible refine at_slot 6 ?_); (refine arm_alloc (o := ⟨some 6, _, _, _, _, _⟩) rfl _ rfl (rcs 0 [0, 0, 0, 0]) z_ring ?_); intro N w4 hNe hR4 hN4)
    | ((with_reducible refine arm_store (o := ⟨none, _, _, _, _, _⟩) rfl _ _ _ rfl N 0 rfl (rcs sub ds) rfl _ _ hR4 (by rw [rcs_len HML.out, z_len]; omega) (rcs_one _ _) (sz_ring' HML.out) ?_); intro w5 hR5 hO5 hS5))
  refine (ringB_any sub _ hb).mono ?_
  rintro e w6 ⟨rfl, hB6⟩
  have eN := hNe.out; have s4 := hN4.size; have s5 := hS5.out
  have nRN : R ≠ N := by have := LTR.out; omega
  have NRN := Lib.hid nRN
  have lN : w.heap.size ≤ N := by have := bel3.size; omega
  have bel6 : Below w.heap.size w w6 := below_step (below_only (below_step bel3 bel3.size hN4.below) hO5 lN (by have := bel3.size; omega)) (by have := bel3.size; omega) hB6
  have hRR6 := ((hRR3.old hN4.below).only hO5 nRN).old hB6
  have hRN6 : Row w6 N 25 (rcs sub ds) := (hR5.congr (lay_all _ _ (by rw [rcs_len HML.out, z_len]))).old hB6
  clear eN s4 s5 nRN hNe hR4 hN4 hR5 hO5 hS5 hB6 bel3 hRR3
  clear w4 w5
  have hj : sub % 4 < 4 := by omega
  generalize sub % 4 = j at hj HAT hpd ⊢
  have cN := hRN6.cell (rcs_get (L := sub) (cs := ds) (i := j) (by rw [HML.out]; exact hj))
  rw [HAT.out] at cN
  have ij : (j : Int) < 4 := by omega
  go_wp2_with (first
    | ((with_reducible refine at_slot 23 ?_); (refine arm_build (o := ⟨some 23, _, _, _, _, _⟩) rfl _ _ rfl (rcs 0 [0, 0, 0, 0]) (by kernel_rfl) ?_))
    | ((with_reducible refine arm_store (o := ⟨none, _, _, _, _, _⟩) rfl _ _ _ rfl R 0 rfl (rcs 0 [0, 0, 0, 0]) rfl _ _ hRR6 (by rw [z_len]; omega) (rcs_one _ _) (sz_ring' rfl) ?_); intro w7 hR7 hO7 hS7))
  refine bodyPost_ret (v := .tuple #[.agg (rcs 0 [0, 0, 0, 0]).toArray, .int .i64 11]) (result_row2 (p := 4) (u := 5) (ty := 25) (t := 25) (by kernel_rfl) _ w7 R _ _ rfl rfl (hR7.congr (lay_all _ _ rfl)) (sz_ring' rfl)) rfl ⟨rfl, below_only bel6 hO7 lR bel6.size⟩
set_option maxHeartbeats 1000000 in
set_option maxRecDepth 100000 in
theorem put_ok (L sub : Nat) (cs : List Nat) (w : World) (h : L ≤ sub) (hb : sub < 4294967296) (hf : atG L cs sub < 3) (hl : cs.length = 4) :
    Calls Try.prog 30 #[.agg (rcs L cs).toArray, .int .u32 (sub : Int)] w fun e w' => e = .returned (.tuple #[.agg (rcs sub (putd L cs sub)).toArray, .int .i64 0]) ∧ Below w.heap.size w w' := by
  have HL := Lib.hid hl; clear hl
  have hd : decide ((sub : Int) < (L : Int)) = false := decide_eq_false (by omega)
  have HM := Lib.hid (moved_any L sub cs)
  have hml := mvd_len L cs sub
  have hat := mvd_at (L := L) (s := sub) (cs := cs)
  have hpd : Hid ((mvd L cs sub).set (sub % 4) (atG L cs sub + 1) = putd L cs sub) := rfl
  have HPL := Lib.hid (putd_len L cs sub)
  generalize putd L cs sub = pd at hpd HPL ⊢
  generalize atG L cs sub = x at hat hf hpd
  generalize mvd L cs sub = ds at HM hml hat hpd
  have HML := Lib.hid hml; have HAT := Lib.hid hat; clear hml hat
  have hne : ((x : Int) == 3) = false := beq_eq_false_iff_ne.2 (by omega)
  have hne2 : (((x : Nat) : Int) = 3) = False := by simp; omega
  have hwx : ((x : Int) + 1) % 4294967296 = ((x + 1 : Nat) : Int) := by omega
  go_enter Try.func30, Try.ntmps30
  go_wp2_with (first
    | ((with_reducible refine at_slot 2 ?_); (refine arm_box (o := ⟨some 2, _, _, _, _, _⟩) rfl _ _ rfl (rcs L cs) rfl ?_); intro B w1 hBe hR1 hN1)
    | ((with_reducible refine at_slot 4 ?_); (refine arm_alloc (o := ⟨some 4, _, _, _, _, _⟩) rfl _ rfl (rcs 0 [0, 0, 0, 0]) z_ring ?_); intro R w2 hRe hR2 hN2; have cB := (hR1.old hN2.below).cell (rcs_get0 L cs))
    | ((with_reducible refine at_slot 13 ?_); (refine arm_load (o := ⟨some 13, _, _, _, _, _⟩) rfl _ _ rfl B 0 rfl (rcs L cs) (row_all (hR1.old hN2.below)) (sz_ring' HL.out) ?_)))
  refine (HM.out _ h hb HL.out).mono ?_
  rintro e w3 ⟨rfl, hB3⟩
  have eR := hRe.out; have s1 := hN1.size; have s2 := hN2.size; have s3 := hB3.size
  have bel3 : Below w.heap.size w w3 := below_step (below_step hN1.below (by omega) hN2.below) (by omega) hB3
  have hRR3 := hR2.old hB3
  have lR : w.heap.size ≤ R := by omega
  have ltR : R < w3.heap.size := by omega
  have LTR := Lib.hid ltR; clear ltR
  clear eR s1 s2 s3 hBe hRe hR1 hN1 hN2 hR2 hB3 cB
  clear w1 w2
  go_wp2_with (first
    | ((with_reducible refine at_slot 6 ?_); (refine arm_alloc (o := ⟨some 6, _, _, _, _, _⟩) rfl _ rfl (rcs 0 [0, 0, 0, 0]) z_ring ?_); intro N w4 hNe hR4 hN4)
    | ((with_reducible refine arm_store (o := ⟨none, _, _, _, _, _⟩) rfl _ _ _ rfl N 0 rfl (rcs sub ds) rfl _ _ hR4 (by rw [rcs_len HML.out, z_len]; omega) (rcs_one _ _) (sz_ring' HML.out) ?_); intro w5 hR5 hO5 hS5))
  refine (ringB_any sub _ hb).mono ?_
  rintro e w6 ⟨rfl, hB6⟩
  have eN := hNe.out; have s4 := hN4.size; have s5 := hS5.out
  have nRN : R ≠ N := by have := LTR.out; omega
  have NRN := Lib.hid nRN
  have lN : w.heap.size ≤ N := by have := bel3.size; omega
  have bel6 : Below w.heap.size w w6 := below_step (below_only (below_step bel3 bel3.size hN4.below) hO5 lN (by have := bel3.size; omega)) (by have := bel3.size; omega) hB6
  have hRR6 := ((hRR3.old hN4.below).only hO5 nRN).old hB6
  have hRN6 : Row w6 N 25 (rcs sub ds) := (hR5.congr (lay_all _ _ (by rw [rcs_len HML.out, z_len]))).old hB6
  clear eN s4 s5 nRN hNe hR4 hN4 hR5 hO5 hS5 hB6 bel3 hRR3
  clear w4 w5
  have hj : sub % 4 < 4 := by omega
  generalize sub % 4 = j at hj HAT hpd ⊢
  have cN := hRN6.cell (rcs_get (L := sub) (cs := ds) (i := j) (by rw [HML.out]; exact hj))
  rw [HAT.out] at cN
  have ij : (j : Int) < 4 := by omega
  go_wp2_with (first
    | ((with_reducible refine arm_store1 (o := ⟨none, _, _, _, _, _⟩) rfl _ _ _ rfl N (1 + j) rfl .u32 _ rfl (by kernel_rfl) _ _ hRN6 (by rw [rcs_len HML.out]; omega) ?_); intro w7 hR7 hO7 hS7; have hRN7 : Row w7 N 25 (rcs sub pd) := hR7.congr (by rw [← hpd.out, ← rcs_set]; congr 2))
    | ((with_reducible refine at_slot 31 ?_); (refine arm_load (o := ⟨some 31, _, _, _, _, _⟩) rfl _ _ rfl N 0 rfl (rcs sub pd) (row_all hRN7) (sz_ring' HPL.out) ?_))
    | ((with_reducible refine arm_store (o := ⟨none, _, _, _, _, _⟩) rfl _ _ _ rfl R 0 rfl (rcs sub pd) rfl _ _ (hRR6.only hO7 NRN.out) (by rw [rcs_len HPL.out, z_len]; omega) (rcs_one _ _) (sz_ring' HPL.out) ?_); intro w8 hR8 hO8 hS8))
  refine bodyPost_ret (v := .tuple #[.agg (rcs sub pd).toArray, .int .i64 0]) (result_row2 (p := 4) (u := 5) (ty := 25) (t := 25) (by kernel_rfl) _ w8 R _ _ rfl rfl (hR8.congr (lay_all _ _ (by rw [rcs_len HPL.out, z_len]))) (sz_ring' HPL.out)) rfl ⟨rfl, below_only (below_only bel6 hO7 lN bel6.size) hO8 lR (Nat.le_trans bel6.size hO7.size)⟩
end Go.Proofs.Ytbbmjjphkmjnbaa.Rg
