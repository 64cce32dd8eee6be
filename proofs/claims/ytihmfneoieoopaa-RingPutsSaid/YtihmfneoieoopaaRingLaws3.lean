/-
  RingPuts, walked: as many blocks as were put are counted, up to a sub-window's slots. Over this seat's translation.
-/
import Derived.Test.YtihmfneoieoopaaRingLaws2
namespace Go.Proofs.Ytihmfneoieoopaa.Rg
open Go.ChangeShapes Go.WideShapes Go.ChangeAt Go.RowKit Go.Proofs.Ytihmfneoieoopaa.Mem Go.Proofs.Ytihmfneoieoopaa.Bt
set_option linter.unusedVariables false
set_option linter.unusedSimpArgs false

/-- A ring M, ds tells of the sub-windows up to m what L, cs tells, and k blocks more in m. -/
structure Tells (L : Nat) (cs : List Nat) (m k M : Nat) (ds : List Nat) : Prop where
  le : M ≤ m
  len : ds.length = 4
  small : Small ds
  at_ : ∀ g : Int, (m : Int) - 4 < g → g ≤ (m : Int) → atG M ds g = atG L cs g + (if g = m then k else 0)
theorem Tells.start {L m : Nat} {cs : List Nat} (h : L ≤ m) (hl : cs.length = 4) (hs : Small cs) : Tells L cs m 0 L cs := ⟨h, hl, hs, fun g _ _ => by split <;> omega⟩
theorem Tells.here {L m k M : Nat} {cs ds : List Nat} (h : Tells L cs m k M ds) (hL : L < m) : atG M ds m = k := by
  rw [h.at_ (m : Int) (by omega) (by omega), atG_out (by omega), if_pos rfl]; omega
theorem Tells.put {L m k M : Nat} {cs ds : List Nat} (h : Tells L cs m k M ds) (hL : L < m) (hk : k < 3) : Tells L cs m (k + 1) m (putd M ds m) :=
  ⟨Nat.le_refl _, putd_len _ _ _, putd_small h.small (by rw [h.here hL]; exact hk), fun g h1 h2 => by
    rw [atG_putd h1 h2, h.at_ g h1 h2]
    split <;> omega⟩
theorem sumc_at {m : Nat} {ds : List Nat} (h : ds.length = 4) : sumc ds = atG m ds m + atG m ds (m - 1) + atG m ds (m - 2) + atG m ds (m - 3) := by
  rw [← sumc_mvd, mvd_self h]
theorem Tells.sum {L m k : Nat} {cs ds : List Nat} (h : Tells L cs m k m ds) (hL : L < m) : sumc ds ≤ befN L cs m + k := by
  rw [sumc_at (m := m) h.len, befN_at hL, h.at_ _ (by omega) (by omega), h.at_ _ (by omega) (by omega), h.at_ _ (by omega) (by omega), h.at_ _ (by omega) (by omega), if_pos rfl, if_neg (by omega), if_neg (by omega), if_neg (by omega), atG_out (g := (m : Int)) (by omega)]
  omega
theorem putd_at (M m : Nat) (ds : List Nat) : (putd M ds m).getD (m % 4) 0 = atG M ds m + 1 := by
  unfold putd
  rw [set_getD _ _ _ _ (by rw [mvd_len]; omega), if_pos rfl]
structure PuRel (w : World) (L : Nat) (cs : List Nat) (m B W : Nat) (i : Value) (wr : World) : Prop where
  ex : ∃ k M : Nat, ∃ ds : List Nat, k ≤ 3 ∧ i = .int .u32 (k : Int) ∧ Tells L cs m k M ds ∧ Row wr B 25 (rcs M ds)
  row : Row wr W 25 (rcs L cs)
  bel : Below w.heap.size w wr
set_option maxHeartbeats 4000000 in
set_option maxRecDepth 100000 in
theorem ringPuts_any (L : Nat) (cs : List Nat) (many behind : Int) (w : World) (hL : L < 4294967296) (hl : cs.length = 4) (hm0 : 0 ≤ many) (hm1 : many ≤ 255) (hb0 : 0 ≤ behind) (hb1 : behind ≤ 255) :
    Calls Try.prog 6 #[.agg (rcs L cs).toArray, .int .u8 many, .int .u8 behind] w fun e w' => e = .returned (.bool true) ∧ Below w.heap.size w w' := by
  have HL := Lib.hid hl
  clear hl
  obtain ⟨a, ha⟩ : ∃ a : Nat, (a : Int) = behind % 8 + 1 := ⟨(behind % 8 + 1).toNat, by omega⟩
  obtain ⟨n, hn⟩ : ∃ n : Nat, (n : Int) = many % 8 := ⟨(many % 8).toNat, by omega⟩
  have ha1 : behind % 8 + 1 = (a : Int) := ha.symm
  have ha2 : (behind % 8 + 1) % 4294967296 = (a : Int) := by omega
  have hn1 : many % 8 = (n : Int) := hn.symm
  have hab : 1 ≤ a ∧ a ≤ 8 := by omega
  have hnb : n ≤ 7 := by omega
  obtain ⟨ha3, ha4⟩ := hab
  clear ha hn
  go_enter Try.func6, Try.ntmps6
  go_wp2_with (first
    | ((with_reducible refine at_slot 3 ?_); (refine arm_box (o := ⟨some 3, _, _, _, _, _⟩) rfl _ _ rfl (rcs L cs) rfl ?_); intro B w1 hBe hR1 hN1))
  refine (awake_any _).mono ?_
  rintro e w2 ⟨rfl, hB2⟩
  have hR2 := hR1.old hB2
  have bel2 : Below w.heap.size w w2 := below_step hN1.below hN1.below.size hB2
  have lB : w.heap.size ≤ B := by have := hBe.out; omega
  clear hBe hR1 hN1 hB2
  clear w1
  go_wp2_with (first
    | ((with_reducible refine at_slot 20 ?_); (refine arm_load (o := ⟨some 20, _, _, _, _, _⟩) rfl _ _ rfl B 0 rfl (rcs L cs) (row_all hR2) (sz_ring' HL.out) ?_)))
  refine (rright_any L cs _ hL HL.out).mono ?_
  by_cases hv : Rt L cs
  · rw [decide_eq_true hv]
    rintro e w3 ⟨rfl, hB3⟩
    have hR3 := hR2.old hB3
    have bel3 := below_step bel2 bel2.size hB3
    clear hR2 bel2 hB3
    have HS := Lib.hid hv.1
    clear hv
    have cB3 := hR3.cell (rcs_get0 L cs)
    by_cases hbig : L ≤ 4294967286
    · have hd : decide ((4294967286 : Int) < (L : Int)) = false := decide_eq_false (by omega)
      obtain ⟨m, hm⟩ : ∃ m : Nat, m = L + a := ⟨_, rfl⟩
      have hm1 : (L : Int) + (a : Int) = (m : Int) := by omega
      have hm2 : ((L : Int) + (a : Int)) % 4294967296 = (m : Int) := by omega
      have hmb : m < 4294967296 := by omega
      have hLm : L < m := by omega
      have HE : Hid (befE L m = 0) := befE_ok (by omega)
      have HBL := befN_le (L := L) (m := m) HS.out
      have CBF := Lib.hid (before_any L m cs)
      have HTS : Hid (∀ k ds, Tells L cs m k m ds → sumc ds ≤ befN L cs m + k) := fun k ds h => h.sum hLm
      generalize befN L cs m = bn at HBL CBF HTS
      clear hm
      go_wp2_with (first
        | ((with_reducible refine at_slot 29 ?_); (refine arm_load (o := ⟨some 29, _, _, _, _, _⟩) rfl _ _ rfl B 0 rfl (rcs L cs) (row_all hR3) (sz_ring' HL.out) ?_)))
      refine (CBF.out _ hL hmb HS.out HL.out).mono ?_
      rw [HE.out]
      rintro e w4 ⟨rfl, hB4⟩
      have hR4 := hR3.old hB4
      have bel4 := below_step bel3 bel3.size hB4
      clear hR3 bel3 hB4 cB3 CBF HE
      go_wp2_with (first
        | ((with_reducible refine at_slot 39 ?_); (refine arm_load (o := ⟨some 39, _, _, _, _, _⟩) rfl _ _ rfl B 0 rfl (rcs L cs) (row_all hR4) (sz_ring' HL.out) ?_))
        | ((with_reducible refine at_slot 10 ?_); (refine arm_alloc (o := ⟨some 10, _, _, _, _, _⟩) rfl _ rfl (rcs 0 [0, 0, 0, 0]) z_ring ?_); intro W w5 hWe hR5 hN5)
        | ((with_reducible refine arm_store (o := ⟨none, _, _, _, _, _⟩) rfl _ _ _ rfl W 0 rfl (rcs L cs) rfl _ _ hR5 (by rw [rcs_len HL.out, z_len]; omega) (rcs_one _ _) (sz_ring' HL.out) ?_); intro w6 hR6 hO6 hS6))
      have eW := hWe.out; have s5 := hN5.size; have s6 := hS6.out; have z4 := bel4.size; have ltB := hR4.lt
      have bel6 : Below w.heap.size w w6 := below_only (below_step bel4 z4 hN5.below) hO6 (by omega) (by omega)
      have nBW : B ≠ W := by omega
      have lW : w.heap.size ≤ W := by omega
      have h0 : PuRel w L cs m B W (.int .u32 0) w6 := ⟨⟨0, L, cs, by omega, rfl, Tells.start (by omega) HL.out HS.out, (hR4.old hN5.below).only hO6 nBW⟩, hR6.congr (lay_all _ _ (by rw [rcs_len HL.out, z_len])), bel6⟩
      have NBW := Lib.hid nBW
      clear eW s5 s6 z4 ltB hWe hR4 bel4 hR5 hN5 hR6 hO6 hS6 bel6 nBW
      simp only [hn1]
      clear hn1
      go_loopw [43] (fun i wr => PuRel w L cs m B W i wr) (fun i _ => 8 - (intOf i).toNat)
      case atStart => exact h0
      case round =>
        clear h0
        obtain ⟨⟨k, M, ds, hk3, rfl, hT, hRB⟩, hRW, hbel⟩ := hrel
        by_cases hlt : k < n
        · have ik : decide ((k : Int) < (n : Int)) = true := decide_eq_true (by omega)
          have HT := Lib.hid hT
          have HDL := Lib.hid hT.len
          have HDS := Lib.hid hT.small
          have HME := Lib.hid hT.le
          have HHE := Lib.hid (hT.here hLm)
          clear hT
          have cW0 := hRW.cell (rcs_get0 L cs)
          go_wp2_with (first
            | ((with_reducible refine at_slot 47 ?_); (refine arm_load (o := ⟨some 47, _, _, _, _, _⟩) rfl _ _ rfl B 0 rfl (rcs M ds) (row_all hRB) (sz_ring' HDL.out) ?_)))
          by_cases hk : k < 3
          · have hi3 : decide ((3 : Int) ≤ (k : Int)) = false := decide_eq_false (by omega)
            have HTP := Lib.hid (HT.out.put hLm hk)
            have HPA := Lib.hid (putd_at M m ds)
            have HPR := Lib.hid (putd_rt HDS.out (by rw [HHE.out]; exact hk : atG M ds m < 3))
            refine (put_ok M m ds _ HME.out hmb (by rw [HHE.out]; exact hk) HDL.out).mono ?_
            rintro e w7 ⟨rfl, hB7⟩
            have HSU := HTS.out _ _ HTP.out
            obtain ⟨pd, hpd⟩ : ∃ pd, pd = putd M ds m := ⟨_, rfl⟩
            rw [← hpd] at HTP HPA HPR HSU ⊢
            rw [HHE.out] at HPA
            have HPL := Lib.hid HTP.out.len
            clear hpd
            have rB7 := hRB.old hB7
            have rW7 := hRW.old hB7
            have bel7 := below_step hbel hbel.size hB7
            clear hRB hRW hbel hB7 cW0 HT HHE HME HDS
            have hj : m % 4 < 4 := by omega
            have hjj : (m : Int) % 4 = ((m % 4 : Nat) : Int) := by omega
            generalize m % 4 = j at hj hjj HPA
            have ij : (j : Int) < 4 := by omega
            obtain ⟨k1, hk1⟩ : ∃ k1 : Nat, k1 = k + 1 := ⟨_, rfl⟩
            rw [← hk1] at HPA HTP HSU
            have hk2 : (k : Int) + 1 = (k1 : Int) := by omega
            have hk4 : ((k : Int) + 1) % 4294967296 = (k1 : Int) := by omega
            have hsb := sumc_small HTP.out.small
            have CS := Lib.hid (sum_any m pd)
            have CR := Lib.hid (right_any m pd)
            rw [decide_eq_true HPR.out] at CR
            have HSM := Lib.hid HTP.out.small
            have hsu1 : sumc pd ≤ bn + k + 1 := by omega
            generalize sumc pd = sm at CS HSU hsu1 hsb
            have hsu2 : decide ((bn : Int) + (k : Int) + 1 < (sm : Int)) = false := decide_eq_false (by omega)
            have hsu3 : decide ((bn : Int) + (k1 : Int) < (sm : Int)) = false := decide_eq_false (by omega)
            have HK1 := Lib.hid hk1
            clear hk1 HSU
            go_wp2_with (first
              | ((with_reducible refine at_slot 12 ?_); (refine arm_alloc (o := ⟨some 12, _, _, _, _, _⟩) rfl _ rfl (rcs 0 [0, 0, 0, 0]) z_ring ?_); intro N w8 hNe hR8 hN8)
              | ((with_reducible refine arm_store (o := ⟨none, _, _, _, _, _⟩) rfl _ _ _ rfl N 0 rfl (rcs m pd) rfl _ _ hR8 (by rw [rcs_len HPL.out, z_len]; omega) (rcs_one _ _) (sz_ring' HPL.out) ?_); intro w9 hR9 hO9 hS9; have rN9 : Row w9 N 25 (rcs m pd) := hR9.congr (lay_all _ _ (by rw [rcs_len HPL.out, z_len])); have cN0 := rN9.cell (rcs_get0 m pd); have cNj := rN9.cell (rcs_get (L := m) (cs := pd) (i := j) (by rw [HPL.out]; exact hj)); rw [HPA.out] at cNj; have rW9 := (rW7.old hN8.below).only hO9 (by have := hNe.out; have := rW7.lt; omega); have cW0 := rW9.cell (rcs_get0 L cs))
              | ((with_reducible refine at_slot 88 ?_); (refine arm_want (.agg (rcs m pd).toArray) 88 rfl (by kernel_rfl) (run_op_load _ _ rfl N 0 rfl (rcs m pd) (row_all rN9) (sz_ring' HPL.out)) ?_)))
            have eN := hNe.out; have s8 := hN8.size; have s9 := hS9.out; have z7 := bel7.size; have ltB := rB7.lt
            have bel9 : Below w.heap.size w w9 := below_only (below_step bel7 z7 hN8.below) hO9 (by omega) (by omega)
            have rB9 := (rB7.old hN8.below).only hO9 (by omega)
            have nNB : N ≠ B := by omega
            have NNB := Lib.hid nNB
            clear eN s8 s9 z7 ltB hNe rB7 rW7 bel7 hR8 hN8 hR9 hO9 hS9 cN0 cNj cW0 nNB
            refine (CS.out _ HSM.out HPL.out).mono ?_
            rintro e w10 ⟨rfl, hB10⟩
            have bel10 := below_step bel9 bel9.size hB10
            have rB10 := rB9.old hB10
            have rN10 := rN9.old hB10
            have rW10 := rW9.old hB10
            clear bel9 hB10 rB9 rN9 rW9 CS
            go_wp2_with (first
              | ((with_reducible refine at_slot 97 ?_); (refine arm_want (.agg (rcs m pd).toArray) 97 rfl (by kernel_rfl) (run_op_load _ _ rfl N 0 rfl (rcs m pd) (row_all rN10) (sz_ring' HPL.out)) ?_)))
            refine (CR.out _ hmb (fun x hx => Nat.lt_trans (small_lt HSM.out HPL.out x hx) (by omega)) HPL.out).mono ?_
            rintro e w11 ⟨rfl, hB11⟩
            have bel11 := below_step bel10 bel10.size hB11
            have rB11 := rB10.old hB11
            have rN11 := rN10.old hB11
            have rW11 := rW10.old hB11
            clear bel10 hB11 rB10 rN10 rW10 CR
            go_wp2_with (first
              | ((with_reducible refine at_slot 101 ?_); (refine arm_load (o := ⟨some 101, _, _, _, _, _⟩) rfl _ _ rfl N 0 rfl (rcs m pd) (row_all rN11) (sz_ring' HPL.out) ?_))
              | ((with_reducible refine arm_store (o := ⟨none, _, _, _, _, _⟩) rfl _ _ _ rfl B 0 rfl (rcs m pd) rfl _ _ rB11 (by rw [rcs_len HPL.out, rcs_len HDL.out]; omega) (rcs_one _ _) (sz_ring' HPL.out) ?_); intro w12 hR12 hO12 hS12))
            go_roundw
            case rel => exact ⟨⟨k1, m, pd, by have := HK1.out; omega, by go_num, HTP.out, hR12.congr (lay_all _ _ (by rw [rcs_len HPL.out, rcs_len HDL.out]))⟩, rW11.only hO12 (Ne.symm NBW.out), below_only bel11 hO12 lB bel11.size⟩
            case measure => simp [intOf]; omega
          · obtain rfl : k = 3 := by omega
            have hi3 : decide ((3 : Int) ≤ ((3 : Nat) : Int)) = true := by decide
            refine (put_full M m ds _ HME.out hmb HHE.out HDL.out).mono ?_
            rintro e w7 ⟨rfl, hB7⟩
            have bel7 := below_step hbel hbel.size hB7
            clear hRB hRW hbel hB7 cW0
            go_wp2_with (first
              | ((with_reducible refine at_slot 12 ?_); (refine arm_alloc (o := ⟨some 12, _, _, _, _, _⟩) rfl _ rfl (rcs 0 [0, 0, 0, 0]) z_ring ?_); intro N w8 hNe hR8 hN8)
              | ((with_reducible refine arm_store (o := ⟨none, _, _, _, _, _⟩) rfl _ _ _ rfl N 0 rfl (rcs 0 [0, 0, 0, 0]) rfl _ _ hR8 (by rw [z_len]; omega) (rcs_one _ _) (sz_ring' rfl) ?_); intro w9 hR9 hO9 hS9)
              | ((with_reducible refine at_slot 60 ?_); (refine arm_want (.agg (rcs 0 [0, 0, 0, 0]).toArray) 60 rfl (by kernel_rfl) (run_op_load _ _ rfl N 0 rfl (rcs 0 [0, 0, 0, 0]) (row_all (hR9.congr (lay_all _ _ rfl))) (sz_ring' rfl)) ?_))
              | ((with_reducible refine at_slot 61 ?_); (refine arm_want (.agg (rcs 0 [0, 0, 0, 0]).toArray) 61 rfl (by kernel_rfl) (run_op_build _ _ rfl (rcs 0 [0, 0, 0, 0]) (by kernel_rfl) _) ?_))
              | ((with_reducible refine at_slot 62 ?_); (refine arm_want (.bool true) 62 rfl (by kernel_rfl) ((run_op_eqlR _ _ _ rfl 0 0 [0, 0, 0, 0] [0, 0, 0, 0] rfl rfl rfl rfl _).trans rfl) ?_)))
            have eN := hNe.out; have z7 := bel7.size; have s8 := hN8.size
            go_ret
            exact ⟨rfl, below_only (below_step bel7 z7 hN8.below) hO9 (by omega) (by omega)⟩
        · have ik : decide ((k : Int) < (n : Int)) = false := decide_eq_false (by omega)
          go_wp2_with fail
          go_ret
          exact ⟨rfl, hbel⟩
    · have hd : decide ((4294967286 : Int) < (L : Int)) = true := decide_eq_true (by omega)
      go_wp2_with fail
      go_ret
      exact ⟨rfl, bel3⟩
  · rw [decide_eq_false hv]
    rintro e w3 ⟨rfl, hB3⟩
    have bel3 := below_step bel2 bel2.size hB3
    clear hR2 bel2 hB3 hv
    go_wp2_with fail
    go_ret
    exact ⟨rfl, bel3⟩
end Go.Proofs.Ytihmfneoieoopaa.Rg
