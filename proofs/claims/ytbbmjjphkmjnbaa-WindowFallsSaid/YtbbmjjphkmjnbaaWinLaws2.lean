/-
  WindowFalls, walked: the least density as of a later slot is never more, and it is what Min will be. Over this seat's translation.
-/
import Derived.Test.YtbbmjjphkmjnbaaWinLaws
import Derived.Test.YtbbmjjphkmjnbaaRingLaws2
namespace Go.Proofs.Ytbbmjjphkmjnbaa.Wn
open Go.ChangeShapes Go.WideShapes Go.ChangeAt Go.RowKit Go.Proofs.Ytbbmjjphkmjnbaa.Mem Go.Proofs.Ytbbmjjphkmjnbaa.Bt Go.Proofs.Ytbbmjjphkmjnbaa.Rg
set_option linter.unusedVariables false
set_option linter.unusedSimpArgs false

theorem befN_anti {L m n : Nat} {cs : List Nat} (h : L < m) (hn : m ≤ n) : befN L cs n ≤ befN L cs m := by
  induction n with
  | zero => omega
  | succ n ih =>
    rcases Nat.lt_or_ge m (n + 1) with h1 | h1
    · exact Nat.le_trans (befN_less (by omega)) (ih (by omega))
    · have : m = n + 1 := by omega
      rw [this]; exact Nat.le_refl _
theorem relN_anti {M L s t : Nat} {cs : List Nat} (h : s ≤ t) : relN M L cs t ≤ relN M L cs s := by
  unfold relN
  by_cases h1 : s < 12 ∨ s / 3 ≤ L
  · rw [if_pos h1]
    split <;> omega
  · rw [if_neg h1, if_neg (by omega)]
    have := befN_anti (L := L) (m := s / 3) (n := t / 3) (cs := cs) (by omega) (by omega)
    omega
theorem putM_rel2 {M L s : Nat} {cs : List Nat} (h : Rt L cs) (he : putE L cs (s / 3) = 0) : putM M L cs s = relN M L cs s := by rw [rel_of_put h, if_pos he]
set_option maxHeartbeats 4000000 in
set_option maxRecDepth 100000 in
theorem windowFalls_any (M L s t : Nat) (cs : List Nat) (w : World) (hM : M < 4294967296) (hL : L < 4294967296) (hs : s < 4294967296) (ht : t < 4294967296) (hl : cs.length = 4) :
    Calls Try.prog 5 #[.agg (wcs M L cs).toArray, .int .u32 (s : Int), .int .u32 (t : Int)] w fun e w' => e = .returned (.bool true) ∧ Below w.heap.size w w' := by
  have HL := Lib.hid hl
  have CQ := fun w0 => Lib.hid (rwright_any M L cs w0 hM hL hl)
  have CO := fun w0 => Lib.hid (own_any M L cs w0 hl)
  have HPC := Lib.hid (putC_len L cs (s / 3))
  have CP := fun (h : WRt M L cs) w0 => Lib.hid (wput_any M L s cs w0 hM hL hs h.2 hl)
  have CRS := fun (h : WRt M L cs) w0 => Lib.hid (wrel_any M L s cs w0 hM hL hs h.2 hl)
  have CRT := fun (h : WRt M L cs) w0 => Lib.hid (wrel_any M L t cs w0 hM hL ht h.2 hl)
  have HPM : Hid (WRt M L cs → putE L cs (s / 3) = 0 → putM M L cs s = relN M L cs s) := fun h he => putM_rel2 h.2 he
  have hla : relN M L cs s ≤ M := relN_le _ _ _ _
  have HAN : Hid (s ≤ t → relN M L cs t ≤ relN M L cs s) := fun h => relN_anti h
  obtain ⟨v, hv⟩ : ∃ v : Bool, v = decide (WRt M L cs) := ⟨_, rfl⟩
  rw [← hv] at CQ
  have HV := Lib.hid hv
  clear hl hv
  generalize putL L cs (s / 3) = pl at CP
  generalize putC L cs (s / 3) = pc at CP HPC
  generalize putE L cs (s / 3) = pe at CP HPM
  generalize putM M L cs s = pm at CP HPM
  generalize relN M L cs s = a at CRS HPM hla HAN
  generalize relN M L cs t = b at CRT HAN
  have HLA := Lib.hid hla
  clear hla
  go_enter Try.func5, Try.ntmps5
  go_wp2_with (first
    | ((with_reducible refine at_slot 3 ?_); (refine arm_box (o := ⟨some 3, _, _, _, _, _⟩) rfl _ _ rfl (wcs M L cs) rfl ?_); intro B wa Be hwa nwa))
  refine (awake_any _).mono ?_
  rintro e wb ⟨rfl, hB⟩
  have rB := hwa.old hB
  have bel1 := below_step nwa.below nwa.below.size hB
  clear Be hwa nwa hB
  clear wa
  go_wp2_with (first
    | ((with_reducible refine at_slot 13 ?_); (refine arm_load (o := ⟨some 13, _, _, _, _, _⟩) rfl _ _ rfl B 0 rfl (wcs M L cs) (row_all rB) (sz_win HL.out) ?_)))
  refine (CO _).out.mono ?_
  rintro e wc ⟨rfl, hB⟩
  have bel3 := below_step bel1 bel1.size hB
  replace rB := rB.old hB
  clear bel1 hB
  go_wp2_with fail
  refine (CQ _).out.mono ?_
  rintro e wd ⟨rfl, hB⟩
  have bel4 := below_step bel3 bel3.size hB
  replace rB := rB.old hB
  clear bel3 hB CQ
  clear wc
  cases v with
  | false =>
    go_wp2_with fail
    go_ret
    exact ⟨rfl, bel4⟩
  | true =>
    have hw : WRt M L cs := of_decide_eq_true HV.out.symm
    have CP := CP hw; have CRS := CRS hw; have CRT := CRT hw
    have HPM : Hid (pe = 0 → pm = a) := HPM.out hw
    clear hw HV
    by_cases hst : t < s
    · have hd : decide ((t : Int) < (s : Int)) = true := decide_eq_true (by omega)
      go_wp2_with fail
      go_ret
      exact ⟨rfl, bel4⟩
    · have hd : decide ((t : Int) < (s : Int)) = false := decide_eq_false (by omega)
      have hab : b ≤ a := HAN.out (by omega)
      have HAB := Lib.hid hab
      clear HAN hab
      go_wp2_with fail
      refine wp_region_held (S := fun w' => Below wd.drew.heap.size wd.drew w') (by kernel_rfl) ?_
      change wpAnyH _ _ _ _ _ _ _ _ wd.drew
      have rz : Row wd.drew B 27 (wcs M L cs) := rB
      have belz : Below w.heap.size w wd.drew := bel4.trans ((Below.refl _ _).drew)
      generalize wd.drew = wz at rz belz ⊢
      clear rB bel4 hd
      clear wd
      have hS : Below wz.heap.size wz wz := Below.refl _ _
      refine h_take 0 (.agg (wcs M L cs).toArray) rfl 22 rfl (by kernel_rfl) (by kernel_rfl) (by kernel_rfl) (by kernel_rfl) (fun _ _ _ h => h) (fun w' hC => run_op_load _ _ rfl B 0 rfl (wcs M L cs) (row_all (rz.old hC)) (sz_win HL.out)) hS ?_
      simp only [Act.put, List.setIfInBounds_toArray, List.set_cons_zero, List.set_cons_succ]
      refine h_take 1 (.int .u32 (s : Int)) rfl 23 rfl (by kernel_rfl) (by kernel_rfl) (by kernel_rfl) (by kernel_rfl) (fun _ _ _ h => h) (fun w' _ => by kernel_rfl) hS ?_
      simp only [Act.put, List.setIfInBounds_toArray, List.set_cons_zero, List.set_cons_succ]
      refine h_take 3 (.agg (wcs M L cs).toArray) rfl 25 rfl (by kernel_rfl) (by kernel_rfl) (by kernel_rfl) (by kernel_rfl) (fun _ _ _ h => h) (fun w' hC => run_op_load _ _ rfl B 0 rfl (wcs M L cs) (row_all (rz.old hC)) (sz_win HL.out)) hS ?_
      simp only [Act.put, List.setIfInBounds_toArray, List.set_cons_zero, List.set_cons_succ]
      refine h_take 4 (.int .u32 (t : Int)) rfl 26 rfl (by kernel_rfl) (by kernel_rfl) (by kernel_rfl) (by kernel_rfl) (fun _ _ _ h => h) (fun w' _ => by kernel_rfl) hS ?_
      simp only [Act.put, List.setIfInBounds_toArray, List.set_cons_zero, List.set_cons_succ]
      refine h_one (i := 2) (by kernel_rfl) (o_call rfl 24 rfl (by kernel_rfl) (run_op_call 14 _ _ rfl #[.agg (wcs M L cs).toArray, .int .u32 (s : Int)] (by simp only [List.map_toArray, List.map_cons, List.map_nil]; rfl) Try.func14 (by kernel_rfl) (by kernel_rfl) _) ((CRS _).out) ?_)
      rintro e y1 ⟨rfl, hB1⟩
      have hS1 : Below wz.heap.size wz y1 := below_step hS hS.size hB1
      refine ⟨_, rfl, hS1, ?_⟩
      clear hB1
      simp only [Act.put, List.setIfInBounds_toArray, List.set_cons_zero, List.set_cons_succ]
      refine h_one (i := 5) (by kernel_rfl) (o_call rfl 27 rfl (by kernel_rfl) (run_op_call 14 _ _ rfl #[.agg (wcs M L cs).toArray, .int .u32 (t : Int)] (by simp only [List.map_toArray, List.map_cons, List.map_nil]; rfl) Try.func14 (by kernel_rfl) (by kernel_rfl) _) ((CRT _).out) ?_)
      rintro e y2 ⟨rfl, hB2⟩
      have hS2 : Below wz.heap.size wz y2 := below_step hS1 hS1.size hB2
      refine ⟨_, rfl, hS2, ?_⟩
      clear hB2
      simp only [Act.put, List.setIfInBounds_toArray, List.set_cons_zero, List.set_cons_succ]
      refine h_take 6 (.int .u32 (a : Nat)) rfl 7 rfl (by kernel_rfl) (by kernel_rfl) (by kernel_rfl) (by kernel_rfl) (fun _ _ _ h => h) (fun w' _ => by kernel_rfl) hS2 ?_
      simp only [Act.put, List.setIfInBounds_toArray, List.set_cons_zero, List.set_cons_succ]
      refine h_take 7 (.int .u32 (b : Nat)) rfl 8 rfl (by kernel_rfl) (by kernel_rfl) (by kernel_rfl) (by kernel_rfl) (fun _ _ _ h => h) (fun w' _ => by kernel_rfl) hS2 ?_
      simp only [Act.put, List.setIfInBounds_toArray, List.set_cons_zero, List.set_cons_succ]
      refine wpAnyH_done (by kernel_rfl) ?_ _
      have bel5 := below_step belz belz.size hS2
      have rB := rz.old hS2
      clear belz rz hS hS1 hS2 CRS CRT
      have cB := rB.cell (wcs_get0 M L cs)
      have h1 : decide (a < b) = false := decide_eq_false (by have := HAB.out; omega)
      have h2 : decide (M < a) = false := decide_eq_false (by have := HLA.out; omega)
      go_wp2_with (first
        | ((with_reducible refine at_slot 38 ?_); (refine arm_load (o := ⟨some 38, _, _, _, _, _⟩) rfl _ _ rfl B 0 rfl (wcs M L cs) (row_all rB) (sz_win HL.out) ?_)))
      refine (CP _).out.mono ?_
      rintro e we ⟨rfl, hB⟩
      have bel6 := below_step bel5 bel5.size hB
      clear bel5 hB CP rB cB h1 h2
      by_cases h0 : pe = 0
      · obtain rfl := HPM.out h0
        subst h0
        clear HPM
        go_wp2_with (first
          | ((with_reducible refine at_slot 9 ?_); (refine arm_alloc (o := ⟨some 9, _, _, _, _, _⟩) rfl _ rfl (wcs 0 0 [0, 0, 0, 0]) z_win ?_); intro N wc Ne hwc nwc)
          | ((with_reducible refine arm_store (o := ⟨none, _, _, _, _, _⟩) rfl _ _ _ rfl N 0 rfl (wcs pm pl pc) rfl _ _ (hwc) (fit6 HPC.out) (wcs_one _ _ _) (sz_win HPC.out) ?_); intro wd hwd owd swd); have cN := (hwd.congr (lay_all _ _ (len6 HPC.out))).cell (wcs_get0 pm pl pc))
        have eN := Ne.out; have zN := bel6.size
        go_ret
        exact ⟨rfl, below_only (below_step bel6 bel6.size nwc.below) owd (by omega) (by rw [nwc.size]; omega)⟩
      · have hne : (pe != (0 : Int)) = true := bne_iff_ne.2 h0
        clear h0 HPM
        go_wp2_with (first
          | ((with_reducible refine at_slot 9 ?_); (refine arm_alloc (o := ⟨some 9, _, _, _, _, _⟩) rfl _ rfl (wcs 0 0 [0, 0, 0, 0]) z_win ?_); intro N wc Ne hwc nwc)
          | ((with_reducible refine arm_store (o := ⟨none, _, _, _, _, _⟩) rfl _ _ _ rfl N 0 rfl (wcs pm pl pc) rfl _ _ (hwc) (fit6 HPC.out) (wcs_one _ _ _) (sz_win HPC.out) ?_); intro wd hwd owd swd))
        have eN := Ne.out; have zN := bel6.size
        go_ret
        exact ⟨rfl, below_only (below_step bel6 bel6.size nwc.below) owd (by omega) (by rw [nwc.size]; omega)⟩
end Go.Proofs.Ytbbmjjphkmjnbaa.Wn
