/-
  The walk of layer 10's statement GrowHistory, out of the contracts: it returns true, and changes nothing that was there. Over this seat's translation.
-/
import Derived.Test.YtmohlcmhogbkjaaDoorGroHist2
import Derived.Deep.DeepCutAuto
import Derived.BigQuiet
namespace Go.Proofs.YtmohlcmhogbkjaaDoor.Gr
open Go.ChangeShapes Go.WideShapes Go.ChangeAt Go.RowKit Go.Proofs.YtmohlcmhogbkjaaDoor.Mem Go.Proofs.YtmohlcmhogbkjaaDoor.Bt Go.Proofs.YtmohlcmhogbkjaaDoor.Rg Go.Proofs.YtmohlcmhogbkjaaDoor.Wn Go.Proofs.YtmohlcmhogbkjaaDoor.Sa Go.Proofs.YtmohlcmhogbkjaaDoor.Sha Go.Proofs.YtmohlcmhogbkjaaDoor.Wd
open Go.Proofs.YtmohlcmhogbkjaaDoor.Ep (H32 Dat Blk zh zh_ok num32 zd zd_ok Has h_len one_app one_num szH zH fitH allH dcs dcs_len dcs_one seedN seed_ok nextF nowF sz_dat z_dat fitD allD rseed_any d_len p_now p_next run_op_neqDat)
open Go.Proofs.YtmohlcmhogbkjaaDoor.Wi (blk)
set_option linter.unusedVariables false
set_option linter.unusedSimpArgs false

set_option maxHeartbeats 40000000 in
set_option maxRecDepth 100000 in
theorem growHistory_any (x st : List Nat) (sp : Option Addr) (sc : Nat) (dl : List (List Nat)) (dp : Option Addr) (dc : Nat) (w : World) (kx : H32 x) (hst : C32 w sp sc st) (hd : Hs w dp dl) (hk : w.rangeAt 1 0 (u32s ks)) (hk2 : w.rangeAt 0 0 (u32s ks)) :
    Calls Tryd.prog 5 #[.agg (u8s x).toArray, .slice sp st.length sc, .slice dp dl.length dc] w fun e w' => e = .returned (.bool true) ∧ Below w.heap.size w w' := by
  have hk1 : 1 < w.heap.size := range_lt hk (by simp [u32s, ks])
  have HKW : Hid (∀ w', Below w.heap.size w w' → w'.rangeAt 1 0 (u32s ks)) := Lib.hid fun w' hb => range_block hk (hb.block _ hk1)
  have hk3 : 0 < w.heap.size := range_lt hk2 (by simp [u32s, ks])
  have HKR : Hid (∀ w', Below w.heap.size w w' → w'.rangeAt 0 0 (u32s ks)) := Lib.hid fun w' hb => range_block hk2 (hb.block _ hk3)
  have KX := Lib.hid kx
  have HST := Lib.hid hst.r; have HTT := Lib.hid hst.lt_; have HDS := Lib.hid hd
  have CA := Lib.hid (fun w0 h => awake_any w0 h)
  clear hk hk1 hk2 hk3 hst hd
  by_cases hbig : 60 < st.length
  · have hbd : decide ((60 : Int) < (st.length : Int)) = true := decide_eq_true (by omega)
    have hbd2 : decide (60 < st.length) = true := decide_eq_true hbig
    go_enter Tryd.func5, Tryd.ntmps5
    go_wp2_with (first
      | ((with_reducible refine at_slot 3 ?_); (refine arm_box (o := ⟨some 3, _, _, _, _, _⟩) rfl _ _ rfl (u8s x) rfl ?_); intro X v1 Xe hv1 nv1))
    have q0 := Xe.out
    have q1 := nv1.size
    have lX : w.heap.size ≤ X := by omega
    have rX2 : Row v1 X 23 (u8s x) := hv1
    have bel2 : Below w.heap.size w v1 := (below_step (Below.refl _ _) (by omega) nv1.below)
    clear q0 q1 Xe hv1 nv1
    refine (CA.out _ (HKW.out _ bel2)).mono ?_
    rintro e y3 ⟨rfl, hB⟩
    have rX3 : Row y3 X 23 (u8s x) := rX2.old hB
    have bel3 : Below w.heap.size w y3 := below_step bel2 bel2.size hB
    clear hB rX2 bel2
    go_wp2_with fail
    go_ret
    exact ⟨rfl, bel3⟩
  · have hbd : decide ((60 : Int) < (st.length : Int)) = false := decide_eq_false (by omega)
    have hbd2 : decide (60 < st.length) = false := decide_eq_false hbig
    have CG := Lib.hid (fun w0 => sgenesis_any x w0 kx)
    have GK := Lib.hid (gen_ok kx)
    have GF := Lib.hid (GH.first x)
    have CH := Lib.hid (fun w0 h => shash_any (genS x) w0 (gen_ok kx) h)
    have KD := Lib.hid (digS_ok (genS x))
    have GSD := Lib.hid (show (genS x).next.seed = zh from rfl)
    have GCT := Lib.hid (show (genS x).count = 0 from rfl)
    obtain ⟨g, hg⟩ : ∃ g, g = genS x := ⟨_, rfl⟩
    rw [← hg] at CG GK GF CH KD GSD GCT
    clear hg kx
    go_enter Tryd.func5, Tryd.ntmps5
    go_wp2_with (first
      | ((with_reducible refine at_slot 3 ?_); (refine arm_box (o := ⟨some 3, _, _, _, _, _⟩) rfl _ _ rfl (u8s x) rfl ?_); intro X v1 Xe hv1 nv1))
    have q0 := Xe.out
    have q1 := nv1.size
    have lX : w.heap.size ≤ X := by omega
    have rX2 : Row v1 X 23 (u8s x) := hv1
    have bel2 : Below w.heap.size w v1 := (below_step (Below.refl _ _) (by omega) nv1.below)
    clear q0 q1 Xe hv1 nv1
    refine (CA.out _ (HKW.out _ bel2)).mono ?_
    rintro e y3 ⟨rfl, hB⟩
    have rX3 : Row y3 X 23 (u8s x) := rX2.old hB
    have bel3 : Below w.heap.size w y3 := below_step bel2 bel2.size hB
    clear hB rX2 bel2
    go_wp2_with (first
      | ((with_reducible refine at_slot 30 ?_); (refine arm_load (o := ⟨some 30, _, _, _, _, _⟩) rfl _ _ rfl X 0 rfl (u8s x) ((show Has (u8s x) 0 (u8s x) from Has.refl _).range (rX3)) (szH KX.out) ?_)))
    refine (CG.out _).mono ?_
    rintro e y4 ⟨rfl, hB⟩
    have rX4 : Row y4 X 23 (u8s x) := rX3.old hB
    have bel4 : Below w.heap.size w y4 := below_step bel3 bel3.size hB
    clear hB rX3 bel3
    go_wp2_with (first
      | ((with_reducible refine at_slot 7 ?_); (refine arm_alloc (o := ⟨some 7, _, _, _, _, _⟩) rfl _ rfl (scs zs) z_sta ?_); intro V v5 Ve hv5 nv5)
      | ((with_reducible refine arm_store (o := ⟨none, _, _, _, _, _⟩) rfl _ _ _ rfl V 0 rfl (scs g) rfl _ _ (hv5) (fitS GK.out) (scs_one _) (sz_sta GK.out) ?_); intro v6 hv6 ov6 sv6)
      | ((with_reducible refine at_slot 32 ?_); (refine arm_one32 (o := ⟨some 32, _, _, _, _, _⟩) rfl _ rfl 0 (by simp only [List.map_toArray, List.map_cons, List.map_nil]; rfl) ?_); intro base v7 basee hv7 nv7)
      | ((with_reducible refine at_slot 33 ?_); (refine arm_load (o := ⟨some 33, _, _, _, _, _⟩) rfl _ _ rfl V 0 rfl (scs g) ((show Has (scs g) 0 (scs g) from Has.refl _).range (((hv6.congr (allS GK.out)).old nv7.below))) (sz_sta GK.out) ?_)))
    have q0 := Ve.out
    have q1 := nv5.size
    have q2 := sv6.out
    have q3 := basee.out
    have q4 := nv7.size
    have q5 := rX4.lt
    have q6 := bel4.size
    have lV : w.heap.size ≤ V := by omega
    have nXV : X ≠ V := by omega
    have nVX : V ≠ X := by omega
    have lbase : w.heap.size ≤ base := by omega
    have nXbase : X ≠ base := by omega
    have nbaseX : base ≠ X := by omega
    have nVbase : V ≠ base := by omega
    have nbaseV : base ≠ V := by omega
    have bV : V < base := by omega
    have bX : X < base := by omega
    have rX8 : Row v7 X 23 (u8s x) := (((rX4.old nv5.below).only ov6 nXV).old nv7.below)
    have rV8 : Row v7 V 35 (scs g) := ((hv6.congr (allS GK.out)).old nv7.below)
    have rbase8 : Row v7 base 24 (u32s [0]) := hv7
    have bel8 : Below w.heap.size w v7 := (below_step (below_only (below_step bel4 (by omega) nv5.below) ov6 lV (by omega)) (by omega) nv7.below)
    clear q0 q1 q2 q3 q4 q5 q6 rX4 bel4 Ve hv5 nv5 hv6 ov6 sv6 basee hv7 nv7
    refine (CH.out _ (HKW.out _ bel8)).mono ?_
    rintro e y9 ⟨rfl, hB⟩
    have rX9 : Row y9 X 23 (u8s x) := rX8.old hB
    have rV9 : Row y9 V 35 (scs g) := rV8.old hB
    have rbase9 : Row y9 base 24 (u32s [0]) := rbase8.old hB
    have bel9 : Below w.heap.size w y9 := below_step bel8 bel8.size hB
    clear hB rX8 rV8 rbase8 bel8
    go_wp2_with (first
      | ((with_reducible refine at_slot 35 ?_); (refine arm_oneH (o := ⟨some 35, _, _, _, _, _⟩) rfl _ rfl (digS g) KD.out (by simp only [List.map_toArray, List.map_cons, List.map_nil]; rfl) ?_); intro E v10 Ee hv10 nv10))
    have q0 := Ee.out
    have q1 := nv10.size
    have q2 := rX9.lt
    have q3 := rV9.lt
    have q4 := rbase9.lt
    have q5 := bel9.size
    have lE : w.heap.size ≤ E := by omega
    have nXE : X ≠ E := by omega
    have nEX : E ≠ X := by omega
    have nVE : V ≠ E := by omega
    have nEV : E ≠ V := by omega
    have nbaseE : base ≠ E := by omega
    have nEbase : E ≠ base := by omega
    have bE : base ≤ E := by omega
    have rX11 : Row v10 X 23 (u8s x) := (rX9.old nv10.below)
    have rV11 : Row v10 V 35 (scs g) := (rV9.old nv10.below)
    have rbase11 : Row v10 base 24 (u32s [0]) := (rbase9.old nv10.below)
    have rE11 : Row v10 E 23 (u8s (digS g)) := hv10
    have bel11 : Below w.heap.size w v10 := (below_step bel9 (by omega) nv10.below)
    clear q0 q1 q2 q3 q4 q5 rX9 rV9 rbase9 bel9 Ee hv10 nv10
    go_cut [10, 11, 12] (fun a10 a11 a12 wx => ∃ G C T : Nat, a10 = .pointer (some ⟨G, 0, none⟩) ∧ a11 = .pointer (some ⟨C, 0, none⟩) ∧ a12 = .pointer (some ⟨T, 0, none⟩) ∧ Row wx G 23 (u8s zh) ∧ Row wx C 31 (dcs g.now) ∧ Row wx T 31 (dcs g.next) ∧ Below v10.heap.size v10 wx ∧ v10.heap.size ≤ G ∧ v10.heap.size ≤ C ∧ v10.heap.size ≤ T ∧ G ≠ C ∧ G ≠ T ∧ C ≠ T)
    case first => as_aux_lemma =>
      refine wp_region_held (S := fun w' => Row w' V 35 (scs g)) (by kernel_rfl) ?_
      change wpAnyH _ _ _ _ _ _ _ _ v10.drew
      have hS0 : Row v10.drew V 35 (scs g) := rV11
      have b0 : Below v10.heap.size v10 v10.drew := (Below.refl _ _).drew
      generalize v10.drew = y0 at hS0 b0 ⊢
      refine h_take 0 (.agg (u8s zh).toArray) rfl 36 rfl (by kernel_rfl) (by kernel_rfl) (by kernel_rfl) (by kernel_rfl) (fun _ _ _ h => h) (fun w' _ => run_op_build _ _ rfl (u8s zh) (by simp only [List.map_toArray, List.map_nil]; kernel_rfl) w') hS0 ?_
      simp only [Act.put, List.setIfInBounds_toArray, List.set_cons_zero, List.set_cons_succ]
      refine h_take 1 (.pointer (some ⟨V, 105, none⟩)) rfl 37 rfl (by kernel_rfl) (by kernel_rfl) (by kernel_rfl) (by kernel_rfl) (fun _ _ _ h => h) (fun w' _ => by kernel_rfl) hS0 ?_
      simp only [Act.put, List.setIfInBounds_toArray, List.set_cons_zero, List.set_cons_succ]
      refine h_take 2 (.pointer (some ⟨V, 105, none⟩)) rfl 38 rfl (by kernel_rfl) (by kernel_rfl) (by kernel_rfl) (by kernel_rfl) (fun _ _ _ h => h) (fun w' _ => by kernel_rfl) hS0 ?_
      simp only [Act.put, List.setIfInBounds_toArray, List.set_cons_zero, List.set_cons_succ]
      refine h_take 3 (.agg (dcs g.now).toArray) rfl 39 rfl (by kernel_rfl) (by kernel_rfl) (by kernel_rfl) (by kernel_rfl) (fun _ _ _ h => h) (fun w' hw => run_op_load _ _ rfl V 105 rfl (dcs g.now) ((p_now (s_eps GK.out)).range hw) (sz_dat GK.out.now)) hS0 ?_
      simp only [Act.put, List.setIfInBounds_toArray, List.set_cons_zero, List.set_cons_succ]
      refine h_take 4 (.pointer (some ⟨V, 105, none⟩)) rfl 40 rfl (by kernel_rfl) (by kernel_rfl) (by kernel_rfl) (by kernel_rfl) (fun _ _ _ h => h) (fun w' _ => by kernel_rfl) hS0 ?_
      simp only [Act.put, List.setIfInBounds_toArray, List.set_cons_zero, List.set_cons_succ]
      refine h_take 5 (.pointer (some ⟨V, 234, none⟩)) rfl 41 rfl (by kernel_rfl) (by kernel_rfl) (by kernel_rfl) (by kernel_rfl) (fun _ _ _ h => h) (fun w' _ => by kernel_rfl) hS0 ?_
      simp only [Act.put, List.setIfInBounds_toArray, List.set_cons_zero, List.set_cons_succ]
      refine h_take 6 (.agg (dcs g.next).toArray) rfl 42 rfl (by kernel_rfl) (by kernel_rfl) (by kernel_rfl) (by kernel_rfl) (fun _ _ _ h => h) (fun w' hw => run_op_load _ _ rfl V 234 rfl (dcs g.next) ((p_next GK.out.now (s_eps GK.out)).range hw) (sz_dat GK.out.next)) hS0 ?_
      simp only [Act.put, List.setIfInBounds_toArray, List.set_cons_zero, List.set_cons_succ]
      refine h_three (i := 7) (j := 8) (l := 9) (by kernel_rfl) ?_ ?_ ?_
      · skip
        refine (o_value _ rfl 10 rfl (by kernel_rfl) (run_op_alloc _ rfl (u8s zh) zH) ?_)
        have hN := new_alloc y0 (.cells (u8s zh).toArray 23)
        have rG1 : Row (y0.alloc (.cells (u8s zh).toArray 23)) y0.heap.size 23 (u8s zh) := heap_alloc_new _ _
        have lG : v10.heap.size ≤ y0.heap.size := b0.size
        generalize y0.alloc (.cells (u8s zh).toArray 23) = y1 at hN rG1 ⊢
        have b1 : Below v10.heap.size v10 y1 := below_step b0 b0.size hN.below
        have hS1 := hS0.old hN.below
        clear hN
        refine ⟨hS1, ?_⟩
        generalize y0.heap.size = G at rG1 lG ⊢
        simp only [Act.put, List.setIfInBounds_toArray, List.set_cons_zero, List.set_cons_succ]
        refine h_two (i := 8) (j := 9) (by kernel_rfl) ?_ ?_
        · skip
          refine (o_value _ rfl 11 rfl (by kernel_rfl) (run_op_alloc _ rfl (dcs zd) z_dat) ?_)
          have hN := new_alloc y1 (.cells (dcs zd).toArray 31)
          have rC2 : Row (y1.alloc (.cells (dcs zd).toArray 31)) y1.heap.size 31 (dcs zd) := heap_alloc_new _ _
          have lC : v10.heap.size ≤ y1.heap.size := b1.size
          have ltGC : G < y1.heap.size := rG1.lt
          generalize y1.alloc (.cells (dcs zd).toArray 31) = y2 at hN rC2 ⊢
          have b2 : Below v10.heap.size v10 y2 := below_step b1 b1.size hN.below
          have hS2 := hS1.old hN.below
          have rG2 := rG1.old hN.below
          clear hN
          refine ⟨hS2, ?_⟩
          generalize y1.heap.size = C at rC2 lC ltGC ⊢
          simp only [Act.put, List.setIfInBounds_toArray, List.set_cons_zero, List.set_cons_succ]
          refine h_one (i := 9) (by kernel_rfl) (o_value _ rfl 12 rfl (by kernel_rfl) (run_op_alloc _ rfl (dcs zd) z_dat) ?_)
          have hN := new_alloc y2 (.cells (dcs zd).toArray 31)
          have rT3 : Row (y2.alloc (.cells (dcs zd).toArray 31)) y2.heap.size 31 (dcs zd) := heap_alloc_new _ _
          have lT : v10.heap.size ≤ y2.heap.size := b2.size
          have ltGT : G < y2.heap.size := rG2.lt
          have ltCT : C < y2.heap.size := rC2.lt
          generalize y2.alloc (.cells (dcs zd).toArray 31) = y3 at hN rT3 ⊢
          have b3 : Below v10.heap.size v10 y3 := below_step b2 b2.size hN.below
          have hS3 := hS2.old hN.below
          have rG3 := rG2.old hN.below
          have rC3 := rC2.old hN.below
          clear hN
          refine ⟨hS3, ?_⟩
          generalize y2.heap.size = T at rT3 lT ltGT ltCT ⊢
          simp only [Act.put, List.setIfInBounds_toArray, List.set_cons_zero, List.set_cons_succ]
          have nGC : G ≠ C := by have := ltGC; omega
          have nGT : G ≠ T := by have := ltGT; omega
          have nCT : C ≠ T := by have := ltCT; omega
          have nVG : V ≠ G := by have := hS0.lt; have := b0.size; have := lG; have := rV11.lt; omega
          have nVC : V ≠ C := by have := lC; have := rV11.lt; omega
          have nVT : V ≠ T := by have := lT; have := rV11.lt; omega
          refine h_one (i := 10) (by kernel_rfl) (o_skip rfl rfl (by kernel_rfl) (run_op_store _ _ _ rfl G 0 rfl (u8s zh) rfl _ _ rG3 (fitH zh_ok) (u8s_one _) (szH zh_ok)) ?_)
          have rq0 := row_setRow rG3 (lay (u8s zh) 0 (u8s zh))
          have oq0 := Only.setRow G y3 (lay (u8s zh) 0 (u8s zh)).toArray
          generalize y3.setRow G (lay (u8s zh) 0 (u8s zh)).toArray = z0 at rq0 oq0 ⊢
          have rCs0 := rC3.only oq0 (Ne.symm nGC)
          have rTs0 := rT3.only oq0 (Ne.symm nGT)
          have rGs0 := rq0.congr (allH zh_ok)
          have bs0 : Below v10.heap.size v10 z0 := below_only b3 oq0 lG b3.size
          have hSs0 := hS3.only oq0 nVG
          refine ⟨hSs0, ?_⟩
          refine h_one (i := 11) (by kernel_rfl) (o_skip rfl rfl (by kernel_rfl) (run_op_store _ _ _ rfl C 0 rfl (dcs g.now) rfl _ _ rCs0 (fitD GK.out.now) (dcs_one _) (sz_dat GK.out.now)) ?_)
          have rq1 := row_setRow rCs0 (lay (dcs zd) 0 (dcs g.now))
          have oq1 := Only.setRow C z0 (lay (dcs zd) 0 (dcs g.now)).toArray
          generalize z0.setRow C (lay (dcs zd) 0 (dcs g.now)).toArray = z1 at rq1 oq1 ⊢
          have rGs1 := rGs0.only oq1 nGC
          have rTs1 := rTs0.only oq1 (Ne.symm nCT)
          have rCs1 := rq1.congr (allD GK.out.now)
          have bs1 : Below v10.heap.size v10 z1 := below_only bs0 oq1 lC bs0.size
          have hSs1 := hSs0.only oq1 nVC
          refine ⟨hSs1, ?_⟩
          refine h_one (i := 12) (by kernel_rfl) (o_skip rfl rfl (by kernel_rfl) (run_op_store _ _ _ rfl T 0 rfl (dcs g.next) rfl _ _ rTs1 (fitD GK.out.next) (dcs_one _) (sz_dat GK.out.next)) ?_)
          have rq2 := row_setRow rTs1 (lay (dcs zd) 0 (dcs g.next))
          have oq2 := Only.setRow T z1 (lay (dcs zd) 0 (dcs g.next)).toArray
          generalize z1.setRow T (lay (dcs zd) 0 (dcs g.next)).toArray = z2 at rq2 oq2 ⊢
          have rGs2 := rGs1.only oq2 nGT
          have rCs2 := rCs1.only oq2 nCT
          have rTs2 := rq2.congr (allD GK.out.next)
          have bs2 : Below v10.heap.size v10 z2 := below_only bs1 oq2 lT bs1.size
          have hSs2 := hSs1.only oq2 nVT
          refine ⟨hSs2, ?_⟩
          refine wpAnyH_done (by kernel_rfl) ?_ _
          go_wp2_with fail
          go_meet
          exact ⟨G, C, T, rfl, rfl, rfl, rGs2, rCs2, rTs2, bs2, lG, lC, lT, nGC, nGT, nCT⟩
        · skip
          refine (o_value _ rfl 12 rfl (by kernel_rfl) (run_op_alloc _ rfl (dcs zd) z_dat) ?_)
          have hN := new_alloc y1 (.cells (dcs zd).toArray 31)
          have rT2 : Row (y1.alloc (.cells (dcs zd).toArray 31)) y1.heap.size 31 (dcs zd) := heap_alloc_new _ _
          have lT : v10.heap.size ≤ y1.heap.size := b1.size
          have ltGT : G < y1.heap.size := rG1.lt
          generalize y1.alloc (.cells (dcs zd).toArray 31) = y2 at hN rT2 ⊢
          have b2 : Below v10.heap.size v10 y2 := below_step b1 b1.size hN.below
          have hS2 := hS1.old hN.below
          have rG2 := rG1.old hN.below
          clear hN
          refine ⟨hS2, ?_⟩
          generalize y1.heap.size = T at rT2 lT ltGT ⊢
          simp only [Act.put, List.setIfInBounds_toArray, List.set_cons_zero, List.set_cons_succ]
          refine h_one (i := 8) (by kernel_rfl) (o_value _ rfl 11 rfl (by kernel_rfl) (run_op_alloc _ rfl (dcs zd) z_dat) ?_)
          have hN := new_alloc y2 (.cells (dcs zd).toArray 31)
          have rC3 : Row (y2.alloc (.cells (dcs zd).toArray 31)) y2.heap.size 31 (dcs zd) := heap_alloc_new _ _
          have lC : v10.heap.size ≤ y2.heap.size := b2.size
          have ltGC : G < y2.heap.size := rG2.lt
          have ltTC : T < y2.heap.size := rT2.lt
          generalize y2.alloc (.cells (dcs zd).toArray 31) = y3 at hN rC3 ⊢
          have b3 : Below v10.heap.size v10 y3 := below_step b2 b2.size hN.below
          have hS3 := hS2.old hN.below
          have rG3 := rG2.old hN.below
          have rT3 := rT2.old hN.below
          clear hN
          refine ⟨hS3, ?_⟩
          generalize y2.heap.size = C at rC3 lC ltGC ltTC ⊢
          simp only [Act.put, List.setIfInBounds_toArray, List.set_cons_zero, List.set_cons_succ]
          have nGC : G ≠ C := by have := ltGC; omega
          have nGT : G ≠ T := by have := ltGT; omega
          have nCT : C ≠ T := by have := ltTC; omega
          have nVG : V ≠ G := by have := hS0.lt; have := b0.size; have := lG; have := rV11.lt; omega
          have nVC : V ≠ C := by have := lC; have := rV11.lt; omega
          have nVT : V ≠ T := by have := lT; have := rV11.lt; omega
          refine h_one (i := 10) (by kernel_rfl) (o_skip rfl rfl (by kernel_rfl) (run_op_store _ _ _ rfl G 0 rfl (u8s zh) rfl _ _ rG3 (fitH zh_ok) (u8s_one _) (szH zh_ok)) ?_)
          have rq0 := row_setRow rG3 (lay (u8s zh) 0 (u8s zh))
          have oq0 := Only.setRow G y3 (lay (u8s zh) 0 (u8s zh)).toArray
          generalize y3.setRow G (lay (u8s zh) 0 (u8s zh)).toArray = z0 at rq0 oq0 ⊢
          have rCs0 := rC3.only oq0 (Ne.symm nGC)
          have rTs0 := rT3.only oq0 (Ne.symm nGT)
          have rGs0 := rq0.congr (allH zh_ok)
          have bs0 : Below v10.heap.size v10 z0 := below_only b3 oq0 lG b3.size
          have hSs0 := hS3.only oq0 nVG
          refine ⟨hSs0, ?_⟩
          refine h_one (i := 11) (by kernel_rfl) (o_skip rfl rfl (by kernel_rfl) (run_op_store _ _ _ rfl C 0 rfl (dcs g.now) rfl _ _ rCs0 (fitD GK.out.now) (dcs_one _) (sz_dat GK.out.now)) ?_)
          have rq1 := row_setRow rCs0 (lay (dcs zd) 0 (dcs g.now))
          have oq1 := Only.setRow C z0 (lay (dcs zd) 0 (dcs g.now)).toArray
          generalize z0.setRow C (lay (dcs zd) 0 (dcs g.now)).toArray = z1 at rq1 oq1 ⊢
          have rGs1 := rGs0.only oq1 nGC
          have rTs1 := rTs0.only oq1 (Ne.symm nCT)
          have rCs1 := rq1.congr (allD GK.out.now)
          have bs1 : Below v10.heap.size v10 z1 := below_only bs0 oq1 lC bs0.size
          have hSs1 := hSs0.only oq1 nVC
          refine ⟨hSs1, ?_⟩
          refine h_one (i := 12) (by kernel_rfl) (o_skip rfl rfl (by kernel_rfl) (run_op_store _ _ _ rfl T 0 rfl (dcs g.next) rfl _ _ rTs1 (fitD GK.out.next) (dcs_one _) (sz_dat GK.out.next)) ?_)
          have rq2 := row_setRow rTs1 (lay (dcs zd) 0 (dcs g.next))
          have oq2 := Only.setRow T z1 (lay (dcs zd) 0 (dcs g.next)).toArray
          generalize z1.setRow T (lay (dcs zd) 0 (dcs g.next)).toArray = z2 at rq2 oq2 ⊢
          have rGs2 := rGs1.only oq2 nGT
          have rCs2 := rCs1.only oq2 nCT
          have rTs2 := rq2.congr (allD GK.out.next)
          have bs2 : Below v10.heap.size v10 z2 := below_only bs1 oq2 lT bs1.size
          have hSs2 := hSs1.only oq2 nVT
          refine ⟨hSs2, ?_⟩
          refine wpAnyH_done (by kernel_rfl) ?_ _
          go_wp2_with fail
          go_meet
          exact ⟨G, C, T, rfl, rfl, rfl, rGs2, rCs2, rTs2, bs2, lG, lC, lT, nGC, nGT, nCT⟩
      · skip
        refine (o_value _ rfl 11 rfl (by kernel_rfl) (run_op_alloc _ rfl (dcs zd) z_dat) ?_)
        have hN := new_alloc y0 (.cells (dcs zd).toArray 31)
        have rC1 : Row (y0.alloc (.cells (dcs zd).toArray 31)) y0.heap.size 31 (dcs zd) := heap_alloc_new _ _
        have lC : v10.heap.size ≤ y0.heap.size := b0.size
        generalize y0.alloc (.cells (dcs zd).toArray 31) = y1 at hN rC1 ⊢
        have b1 : Below v10.heap.size v10 y1 := below_step b0 b0.size hN.below
        have hS1 := hS0.old hN.below
        clear hN
        refine ⟨hS1, ?_⟩
        generalize y0.heap.size = C at rC1 lC ⊢
        simp only [Act.put, List.setIfInBounds_toArray, List.set_cons_zero, List.set_cons_succ]
        refine h_two (i := 7) (j := 9) (by kernel_rfl) ?_ ?_
        · skip
          refine (o_value _ rfl 10 rfl (by kernel_rfl) (run_op_alloc _ rfl (u8s zh) zH) ?_)
          have hN := new_alloc y1 (.cells (u8s zh).toArray 23)
          have rG2 : Row (y1.alloc (.cells (u8s zh).toArray 23)) y1.heap.size 23 (u8s zh) := heap_alloc_new _ _
          have lG : v10.heap.size ≤ y1.heap.size := b1.size
          have ltCG : C < y1.heap.size := rC1.lt
          generalize y1.alloc (.cells (u8s zh).toArray 23) = y2 at hN rG2 ⊢
          have b2 : Below v10.heap.size v10 y2 := below_step b1 b1.size hN.below
          have hS2 := hS1.old hN.below
          have rC2 := rC1.old hN.below
          clear hN
          refine ⟨hS2, ?_⟩
          generalize y1.heap.size = G at rG2 lG ltCG ⊢
          simp only [Act.put, List.setIfInBounds_toArray, List.set_cons_zero, List.set_cons_succ]
          refine h_one (i := 9) (by kernel_rfl) (o_value _ rfl 12 rfl (by kernel_rfl) (run_op_alloc _ rfl (dcs zd) z_dat) ?_)
          have hN := new_alloc y2 (.cells (dcs zd).toArray 31)
          have rT3 : Row (y2.alloc (.cells (dcs zd).toArray 31)) y2.heap.size 31 (dcs zd) := heap_alloc_new _ _
          have lT : v10.heap.size ≤ y2.heap.size := b2.size
          have ltCT : C < y2.heap.size := rC2.lt
          have ltGT : G < y2.heap.size := rG2.lt
          generalize y2.alloc (.cells (dcs zd).toArray 31) = y3 at hN rT3 ⊢
          have b3 : Below v10.heap.size v10 y3 := below_step b2 b2.size hN.below
          have hS3 := hS2.old hN.below
          have rC3 := rC2.old hN.below
          have rG3 := rG2.old hN.below
          clear hN
          refine ⟨hS3, ?_⟩
          generalize y2.heap.size = T at rT3 lT ltCT ltGT ⊢
          simp only [Act.put, List.setIfInBounds_toArray, List.set_cons_zero, List.set_cons_succ]
          have nGC : G ≠ C := by have := ltCG; omega
          have nGT : G ≠ T := by have := ltGT; omega
          have nCT : C ≠ T := by have := ltCT; omega
          have nVG : V ≠ G := by have := hS0.lt; have := b0.size; have := lG; have := rV11.lt; omega
          have nVC : V ≠ C := by have := lC; have := rV11.lt; omega
          have nVT : V ≠ T := by have := lT; have := rV11.lt; omega
          refine h_one (i := 10) (by kernel_rfl) (o_skip rfl rfl (by kernel_rfl) (run_op_store _ _ _ rfl G 0 rfl (u8s zh) rfl _ _ rG3 (fitH zh_ok) (u8s_one _) (szH zh_ok)) ?_)
          have rq0 := row_setRow rG3 (lay (u8s zh) 0 (u8s zh))
          have oq0 := Only.setRow G y3 (lay (u8s zh) 0 (u8s zh)).toArray
          generalize y3.setRow G (lay (u8s zh) 0 (u8s zh)).toArray = z0 at rq0 oq0 ⊢
          have rCs0 := rC3.only oq0 (Ne.symm nGC)
          have rTs0 := rT3.only oq0 (Ne.symm nGT)
          have rGs0 := rq0.congr (allH zh_ok)
          have bs0 : Below v10.heap.size v10 z0 := below_only b3 oq0 lG b3.size
          have hSs0 := hS3.only oq0 nVG
          refine ⟨hSs0, ?_⟩
          refine h_one (i := 11) (by kernel_rfl) (o_skip rfl rfl (by kernel_rfl) (run_op_store _ _ _ rfl C 0 rfl (dcs g.now) rfl _ _ rCs0 (fitD GK.out.now) (dcs_one _) (sz_dat GK.out.now)) ?_)
          have rq1 := row_setRow rCs0 (lay (dcs zd) 0 (dcs g.now))
          have oq1 := Only.setRow C z0 (lay (dcs zd) 0 (dcs g.now)).toArray
          generalize z0.setRow C (lay (dcs zd) 0 (dcs g.now)).toArray = z1 at rq1 oq1 ⊢
          have rGs1 := rGs0.only oq1 nGC
          have rTs1 := rTs0.only oq1 (Ne.symm nCT)
          have rCs1 := rq1.congr (allD GK.out.now)
          have bs1 : Below v10.heap.size v10 z1 := below_only bs0 oq1 lC bs0.size
          have hSs1 := hSs0.only oq1 nVC
          refine ⟨hSs1, ?_⟩
          refine h_one (i := 12) (by kernel_rfl) (o_skip rfl rfl (by kernel_rfl) (run_op_store _ _ _ rfl T 0 rfl (dcs g.next) rfl _ _ rTs1 (fitD GK.out.next) (dcs_one _) (sz_dat GK.out.next)) ?_)
          have rq2 := row_setRow rTs1 (lay (dcs zd) 0 (dcs g.next))
          have oq2 := Only.setRow T z1 (lay (dcs zd) 0 (dcs g.next)).toArray
          generalize z1.setRow T (lay (dcs zd) 0 (dcs g.next)).toArray = z2 at rq2 oq2 ⊢
          have rGs2 := rGs1.only oq2 nGT
          have rCs2 := rCs1.only oq2 nCT
          have rTs2 := rq2.congr (allD GK.out.next)
          have bs2 : Below v10.heap.size v10 z2 := below_only bs1 oq2 lT bs1.size
          have hSs2 := hSs1.only oq2 nVT
          refine ⟨hSs2, ?_⟩
          refine wpAnyH_done (by kernel_rfl) ?_ _
          go_wp2_with fail
          go_meet
          exact ⟨G, C, T, rfl, rfl, rfl, rGs2, rCs2, rTs2, bs2, lG, lC, lT, nGC, nGT, nCT⟩
        · skip
          refine (o_value _ rfl 12 rfl (by kernel_rfl) (run_op_alloc _ rfl (dcs zd) z_dat) ?_)
          have hN := new_alloc y1 (.cells (dcs zd).toArray 31)
          have rT2 : Row (y1.alloc (.cells (dcs zd).toArray 31)) y1.heap.size 31 (dcs zd) := heap_alloc_new _ _
          have lT : v10.heap.size ≤ y1.heap.size := b1.size
          have ltCT : C < y1.heap.size := rC1.lt
          generalize y1.alloc (.cells (dcs zd).toArray 31) = y2 at hN rT2 ⊢
          have b2 : Below v10.heap.size v10 y2 := below_step b1 b1.size hN.below
          have hS2 := hS1.old hN.below
          have rC2 := rC1.old hN.below
          clear hN
          refine ⟨hS2, ?_⟩
          generalize y1.heap.size = T at rT2 lT ltCT ⊢
          simp only [Act.put, List.setIfInBounds_toArray, List.set_cons_zero, List.set_cons_succ]
          refine h_one (i := 7) (by kernel_rfl) (o_value _ rfl 10 rfl (by kernel_rfl) (run_op_alloc _ rfl (u8s zh) zH) ?_)
          have hN := new_alloc y2 (.cells (u8s zh).toArray 23)
          have rG3 : Row (y2.alloc (.cells (u8s zh).toArray 23)) y2.heap.size 23 (u8s zh) := heap_alloc_new _ _
          have lG : v10.heap.size ≤ y2.heap.size := b2.size
          have ltCG : C < y2.heap.size := rC2.lt
          have ltTG : T < y2.heap.size := rT2.lt
          generalize y2.alloc (.cells (u8s zh).toArray 23) = y3 at hN rG3 ⊢
          have b3 : Below v10.heap.size v10 y3 := below_step b2 b2.size hN.below
          have hS3 := hS2.old hN.below
          have rC3 := rC2.old hN.below
          have rT3 := rT2.old hN.below
          clear hN
          refine ⟨hS3, ?_⟩
          generalize y2.heap.size = G at rG3 lG ltCG ltTG ⊢
          simp only [Act.put, List.setIfInBounds_toArray, List.set_cons_zero, List.set_cons_succ]
          have nGC : G ≠ C := by have := ltCG; omega
          have nGT : G ≠ T := by have := ltTG; omega
          have nCT : C ≠ T := by have := ltCT; omega
          have nVG : V ≠ G := by have := hS0.lt; have := b0.size; have := lG; have := rV11.lt; omega
          have nVC : V ≠ C := by have := lC; have := rV11.lt; omega
          have nVT : V ≠ T := by have := lT; have := rV11.lt; omega
          refine h_one (i := 10) (by kernel_rfl) (o_skip rfl rfl (by kernel_rfl) (run_op_store _ _ _ rfl G 0 rfl (u8s zh) rfl _ _ rG3 (fitH zh_ok) (u8s_one _) (szH zh_ok)) ?_)
          have rq0 := row_setRow rG3 (lay (u8s zh) 0 (u8s zh))
          have oq0 := Only.setRow G y3 (lay (u8s zh) 0 (u8s zh)).toArray
          generalize y3.setRow G (lay (u8s zh) 0 (u8s zh)).toArray = z0 at rq0 oq0 ⊢
          have rCs0 := rC3.only oq0 (Ne.symm nGC)
          have rTs0 := rT3.only oq0 (Ne.symm nGT)
          have rGs0 := rq0.congr (allH zh_ok)
          have bs0 : Below v10.heap.size v10 z0 := below_only b3 oq0 lG b3.size
          have hSs0 := hS3.only oq0 nVG
          refine ⟨hSs0, ?_⟩
          refine h_one (i := 11) (by kernel_rfl) (o_skip rfl rfl (by kernel_rfl) (run_op_store _ _ _ rfl C 0 rfl (dcs g.now) rfl _ _ rCs0 (fitD GK.out.now) (dcs_one _) (sz_dat GK.out.now)) ?_)
          have rq1 := row_setRow rCs0 (lay (dcs zd) 0 (dcs g.now))
          have oq1 := Only.setRow C z0 (lay (dcs zd) 0 (dcs g.now)).toArray
          generalize z0.setRow C (lay (dcs zd) 0 (dcs g.now)).toArray = z1 at rq1 oq1 ⊢
          have rGs1 := rGs0.only oq1 nGC
          have rTs1 := rTs0.only oq1 (Ne.symm nCT)
          have rCs1 := rq1.congr (allD GK.out.now)
          have bs1 : Below v10.heap.size v10 z1 := below_only bs0 oq1 lC bs0.size
          have hSs1 := hSs0.only oq1 nVC
          refine ⟨hSs1, ?_⟩
          refine h_one (i := 12) (by kernel_rfl) (o_skip rfl rfl (by kernel_rfl) (run_op_store _ _ _ rfl T 0 rfl (dcs g.next) rfl _ _ rTs1 (fitD GK.out.next) (dcs_one _) (sz_dat GK.out.next)) ?_)
          have rq2 := row_setRow rTs1 (lay (dcs zd) 0 (dcs g.next))
          have oq2 := Only.setRow T z1 (lay (dcs zd) 0 (dcs g.next)).toArray
          generalize z1.setRow T (lay (dcs zd) 0 (dcs g.next)).toArray = z2 at rq2 oq2 ⊢
          have rGs2 := rGs1.only oq2 nGT
          have rCs2 := rCs1.only oq2 nCT
          have rTs2 := rq2.congr (allD GK.out.next)
          have bs2 : Below v10.heap.size v10 z2 := below_only bs1 oq2 lT bs1.size
          have hSs2 := hSs1.only oq2 nVT
          refine ⟨hSs2, ?_⟩
          refine wpAnyH_done (by kernel_rfl) ?_ _
          go_wp2_with fail
          go_meet
          exact ⟨G, C, T, rfl, rfl, rfl, rGs2, rCs2, rTs2, bs2, lG, lC, lT, nGC, nGT, nCT⟩
      · skip
        refine (o_value _ rfl 12 rfl (by kernel_rfl) (run_op_alloc _ rfl (dcs zd) z_dat) ?_)
        have hN := new_alloc y0 (.cells (dcs zd).toArray 31)
        have rT1 : Row (y0.alloc (.cells (dcs zd).toArray 31)) y0.heap.size 31 (dcs zd) := heap_alloc_new _ _
        have lT : v10.heap.size ≤ y0.heap.size := b0.size
        generalize y0.alloc (.cells (dcs zd).toArray 31) = y1 at hN rT1 ⊢
        have b1 : Below v10.heap.size v10 y1 := below_step b0 b0.size hN.below
        have hS1 := hS0.old hN.below
        clear hN
        refine ⟨hS1, ?_⟩
        generalize y0.heap.size = T at rT1 lT ⊢
        simp only [Act.put, List.setIfInBounds_toArray, List.set_cons_zero, List.set_cons_succ]
        refine h_two (i := 7) (j := 8) (by kernel_rfl) ?_ ?_
        · skip
          refine (o_value _ rfl 10 rfl (by kernel_rfl) (run_op_alloc _ rfl (u8s zh) zH) ?_)
          have hN := new_alloc y1 (.cells (u8s zh).toArray 23)
          have rG2 : Row (y1.alloc (.cells (u8s zh).toArray 23)) y1.heap.size 23 (u8s zh) := heap_alloc_new _ _
          have lG : v10.heap.size ≤ y1.heap.size := b1.size
          have ltTG : T < y1.heap.size := rT1.lt
          generalize y1.alloc (.cells (u8s zh).toArray 23) = y2 at hN rG2 ⊢
          have b2 : Below v10.heap.size v10 y2 := below_step b1 b1.size hN.below
          have hS2 := hS1.old hN.below
          have rT2 := rT1.old hN.below
          clear hN
          refine ⟨hS2, ?_⟩
          generalize y1.heap.size = G at rG2 lG ltTG ⊢
          simp only [Act.put, List.setIfInBounds_toArray, List.set_cons_zero, List.set_cons_succ]
          refine h_one (i := 8) (by kernel_rfl) (o_value _ rfl 11 rfl (by kernel_rfl) (run_op_alloc _ rfl (dcs zd) z_dat) ?_)
          have hN := new_alloc y2 (.cells (dcs zd).toArray 31)
          have rC3 : Row (y2.alloc (.cells (dcs zd).toArray 31)) y2.heap.size 31 (dcs zd) := heap_alloc_new _ _
          have lC : v10.heap.size ≤ y2.heap.size := b2.size
          have ltTC : T < y2.heap.size := rT2.lt
          have ltGC : G < y2.heap.size := rG2.lt
          generalize y2.alloc (.cells (dcs zd).toArray 31) = y3 at hN rC3 ⊢
          have b3 : Below v10.heap.size v10 y3 := below_step b2 b2.size hN.below
          have hS3 := hS2.old hN.below
          have rT3 := rT2.old hN.below
          have rG3 := rG2.old hN.below
          clear hN
          refine ⟨hS3, ?_⟩
          generalize y2.heap.size = C at rC3 lC ltTC ltGC ⊢
          simp only [Act.put, List.setIfInBounds_toArray, List.set_cons_zero, List.set_cons_succ]
          have nGC : G ≠ C := by have := ltGC; omega
          have nGT : G ≠ T := by have := ltTG; omega
          have nCT : C ≠ T := by have := ltTC; omega
          have nVG : V ≠ G := by have := hS0.lt; have := b0.size; have := lG; have := rV11.lt; omega
          have nVC : V ≠ C := by have := lC; have := rV11.lt; omega
          have nVT : V ≠ T := by have := lT; have := rV11.lt; omega
          refine h_one (i := 10) (by kernel_rfl) (o_skip rfl rfl (by kernel_rfl) (run_op_store _ _ _ rfl G 0 rfl (u8s zh) rfl _ _ rG3 (fitH zh_ok) (u8s_one _) (szH zh_ok)) ?_)
          have rq0 := row_setRow rG3 (lay (u8s zh) 0 (u8s zh))
          have oq0 := Only.setRow G y3 (lay (u8s zh) 0 (u8s zh)).toArray
          generalize y3.setRow G (lay (u8s zh) 0 (u8s zh)).toArray = z0 at rq0 oq0 ⊢
          have rCs0 := rC3.only oq0 (Ne.symm nGC)
          have rTs0 := rT3.only oq0 (Ne.symm nGT)
          have rGs0 := rq0.congr (allH zh_ok)
          have bs0 : Below v10.heap.size v10 z0 := below_only b3 oq0 lG b3.size
          have hSs0 := hS3.only oq0 nVG
          refine ⟨hSs0, ?_⟩
          refine h_one (i := 11) (by kernel_rfl) (o_skip rfl rfl (by kernel_rfl) (run_op_store _ _ _ rfl C 0 rfl (dcs g.now) rfl _ _ rCs0 (fitD GK.out.now) (dcs_one _) (sz_dat GK.out.now)) ?_)
          have rq1 := row_setRow rCs0 (lay (dcs zd) 0 (dcs g.now))
          have oq1 := Only.setRow C z0 (lay (dcs zd) 0 (dcs g.now)).toArray
          generalize z0.setRow C (lay (dcs zd) 0 (dcs g.now)).toArray = z1 at rq1 oq1 ⊢
          have rGs1 := rGs0.only oq1 nGC
          have rTs1 := rTs0.only oq1 (Ne.symm nCT)
          have rCs1 := rq1.congr (allD GK.out.now)
          have bs1 : Below v10.heap.size v10 z1 := below_only bs0 oq1 lC bs0.size
          have hSs1 := hSs0.only oq1 nVC
          refine ⟨hSs1, ?_⟩
          refine h_one (i := 12) (by kernel_rfl) (o_skip rfl rfl (by kernel_rfl) (run_op_store _ _ _ rfl T 0 rfl (dcs g.next) rfl _ _ rTs1 (fitD GK.out.next) (dcs_one _) (sz_dat GK.out.next)) ?_)
          have rq2 := row_setRow rTs1 (lay (dcs zd) 0 (dcs g.next))
          have oq2 := Only.setRow T z1 (lay (dcs zd) 0 (dcs g.next)).toArray
          generalize z1.setRow T (lay (dcs zd) 0 (dcs g.next)).toArray = z2 at rq2 oq2 ⊢
          have rGs2 := rGs1.only oq2 nGT
          have rCs2 := rCs1.only oq2 nCT
          have rTs2 := rq2.congr (allD GK.out.next)
          have bs2 : Below v10.heap.size v10 z2 := below_only bs1 oq2 lT bs1.size
          have hSs2 := hSs1.only oq2 nVT
          refine ⟨hSs2, ?_⟩
          refine wpAnyH_done (by kernel_rfl) ?_ _
          go_wp2_with fail
          go_meet
          exact ⟨G, C, T, rfl, rfl, rfl, rGs2, rCs2, rTs2, bs2, lG, lC, lT, nGC, nGT, nCT⟩
        · skip
          refine (o_value _ rfl 11 rfl (by kernel_rfl) (run_op_alloc _ rfl (dcs zd) z_dat) ?_)
          have hN := new_alloc y1 (.cells (dcs zd).toArray 31)
          have rC2 : Row (y1.alloc (.cells (dcs zd).toArray 31)) y1.heap.size 31 (dcs zd) := heap_alloc_new _ _
          have lC : v10.heap.size ≤ y1.heap.size := b1.size
          have ltTC : T < y1.heap.size := rT1.lt
          generalize y1.alloc (.cells (dcs zd).toArray 31) = y2 at hN rC2 ⊢
          have b2 : Below v10.heap.size v10 y2 := below_step b1 b1.size hN.below
          have hS2 := hS1.old hN.below
          have rT2 := rT1.old hN.below
          clear hN
          refine ⟨hS2, ?_⟩
          generalize y1.heap.size = C at rC2 lC ltTC ⊢
          simp only [Act.put, List.setIfInBounds_toArray, List.set_cons_zero, List.set_cons_succ]
          refine h_one (i := 7) (by kernel_rfl) (o_value _ rfl 10 rfl (by kernel_rfl) (run_op_alloc _ rfl (u8s zh) zH) ?_)
          have hN := new_alloc y2 (.cells (u8s zh).toArray 23)
          have rG3 : Row (y2.alloc (.cells (u8s zh).toArray 23)) y2.heap.size 23 (u8s zh) := heap_alloc_new _ _
          have lG : v10.heap.size ≤ y2.heap.size := b2.size
          have ltTG : T < y2.heap.size := rT2.lt
          have ltCG : C < y2.heap.size := rC2.lt
          generalize y2.alloc (.cells (u8s zh).toArray 23) = y3 at hN rG3 ⊢
          have b3 : Below v10.heap.size v10 y3 := below_step b2 b2.size hN.below
          have hS3 := hS2.old hN.below
          have rT3 := rT2.old hN.below
          have rC3 := rC2.old hN.below
          clear hN
          refine ⟨hS3, ?_⟩
          generalize y2.heap.size = G at rG3 lG ltTG ltCG ⊢
          simp only [Act.put, List.setIfInBounds_toArray, List.set_cons_zero, List.set_cons_succ]
          have nGC : G ≠ C := by have := ltCG; omega
          have nGT : G ≠ T := by have := ltTG; omega
          have nCT : C ≠ T := by have := ltTC; omega
          have nVG : V ≠ G := by have := hS0.lt; have := b0.size; have := lG; have := rV11.lt; omega
          have nVC : V ≠ C := by have := lC; have := rV11.lt; omega
          have nVT : V ≠ T := by have := lT; have := rV11.lt; omega
          refine h_one (i := 10) (by kernel_rfl) (o_skip rfl rfl (by kernel_rfl) (run_op_store _ _ _ rfl G 0 rfl (u8s zh) rfl _ _ rG3 (fitH zh_ok) (u8s_one _) (szH zh_ok)) ?_)
          have rq0 := row_setRow rG3 (lay (u8s zh) 0 (u8s zh))
          have oq0 := Only.setRow G y3 (lay (u8s zh) 0 (u8s zh)).toArray
          generalize y3.setRow G (lay (u8s zh) 0 (u8s zh)).toArray = z0 at rq0 oq0 ⊢
          have rCs0 := rC3.only oq0 (Ne.symm nGC)
          have rTs0 := rT3.only oq0 (Ne.symm nGT)
          have rGs0 := rq0.congr (allH zh_ok)
          have bs0 : Below v10.heap.size v10 z0 := below_only b3 oq0 lG b3.size
          have hSs0 := hS3.only oq0 nVG
          refine ⟨hSs0, ?_⟩
          refine h_one (i := 11) (by kernel_rfl) (o_skip rfl rfl (by kernel_rfl) (run_op_store _ _ _ rfl C 0 rfl (dcs g.now) rfl _ _ rCs0 (fitD GK.out.now) (dcs_one _) (sz_dat GK.out.now)) ?_)
          have rq1 := row_setRow rCs0 (lay (dcs zd) 0 (dcs g.now))
          have oq1 := Only.setRow C z0 (lay (dcs zd) 0 (dcs g.now)).toArray
          generalize z0.setRow C (lay (dcs zd) 0 (dcs g.now)).toArray = z1 at rq1 oq1 ⊢
          have rGs1 := rGs0.only oq1 nGC
          have rTs1 := rTs0.only oq1 (Ne.symm nCT)
          have rCs1 := rq1.congr (allD GK.out.now)
          have bs1 : Below v10.heap.size v10 z1 := below_only bs0 oq1 lC bs0.size
          have hSs1 := hSs0.only oq1 nVC
          refine ⟨hSs1, ?_⟩
          refine h_one (i := 12) (by kernel_rfl) (o_skip rfl rfl (by kernel_rfl) (run_op_store _ _ _ rfl T 0 rfl (dcs g.next) rfl _ _ rTs1 (fitD GK.out.next) (dcs_one _) (sz_dat GK.out.next)) ?_)
          have rq2 := row_setRow rTs1 (lay (dcs zd) 0 (dcs g.next))
          have oq2 := Only.setRow T z1 (lay (dcs zd) 0 (dcs g.next)).toArray
          generalize z1.setRow T (lay (dcs zd) 0 (dcs g.next)).toArray = z2 at rq2 oq2 ⊢
          have rGs2 := rGs1.only oq2 nGT
          have rCs2 := rCs1.only oq2 nCT
          have rTs2 := rq2.congr (allD GK.out.next)
          have bs2 : Below v10.heap.size v10 z2 := below_only bs1 oq2 lT bs1.size
          have hSs2 := hSs1.only oq2 nVT
          refine ⟨hSs2, ?_⟩
          refine wpAnyH_done (by kernel_rfl) ?_ _
          go_wp2_with fail
          go_meet
          exact ⟨G, C, T, rfl, rfl, rfl, rGs2, rCs2, rTs2, bs2, lG, lC, lT, nGC, nGT, nCT⟩
    case rest => as_aux_lemma =>
      obtain ⟨G, C, T, rfl, rfl, rfl, rG, rC, rT, hbx, hlG, hlC, hlT, nGC, nGT, nCT⟩ := hcut
      have ltV := rV11.lt
      have ltX := rX11.lt
      have ltbase := rbase11.lt
      have ltE := rE11.lt
      have nVG : V ≠ G := by omega
      have nGV : G ≠ V := by omega
      have nVC : V ≠ C := by omega
      have nCV : C ≠ V := by omega
      have nVT : V ≠ T := by omega
      have nTV : T ≠ V := by omega
      have nXG : X ≠ G := by omega
      have nGX : G ≠ X := by omega
      have nXC : X ≠ C := by omega
      have nCX : C ≠ X := by omega
      have nXT : X ≠ T := by omega
      have nTX : T ≠ X := by omega
      have nEG0 : E ≠ G := by omega
      have lsz := bel11.size
      have lG : w.heap.size ≤ G := by omega
      have lC : w.heap.size ≤ C := by omega
      have lT : w.heap.size ≤ T := by omega
      have nCG := Ne.symm nGC; have nTG := Ne.symm nGT; have nTC := Ne.symm nCT
      have szc : base ≤ wc.heap.size := by have := hbx.size; omega
      have rV := rV11.old hbx; have rX := rX11.old hbx; have rA := rbase11.old hbx; have rE := rE11.old hbx
      have bel : Below w.heap.size w wc := below_step bel11 bel11.size hbx
      have lb : w.heap.size ≤ base := lbase
      have h0 : GhRel w x st.length base V G C T X (.int .i64 0) (.slice (some ⟨base, 0, none⟩) 1 1) (.slice (some ⟨E, 0, none⟩) 1 1) (.int .u32 0) wc := ⟨⟨0, g, [0], [digS g], some ⟨base, 0, none⟩, some ⟨E, 0, none⟩, 1, 1, by omega, rfl, rfl, rfl, by rw [GCT.out]; rfl, own_row32 rA (Nat.le_refl _) (by simp), own_rowH rE bE KD.out, fun h => nEG0 (Option.some.inj h), rV, by rw [GSD.out]; exact rG, rC, rT, rX, GF.out, GK.out, rfl, rfl, by simp⟩, bel, szc⟩
      clear hbx rV11 rX11 rbase11 rE11 bel11 rV rX rA rE rG rC rT bel hlG hlC hlT ltV ltX ltbase ltE lsz szc bE CG CH GF GSD GCT KD GK CA nEG0
      go_wp2_with fail
      go_loopw [45, 8, 9, 13] (fun i sv hv cv wr => GhRel w x st.length base V G C T X i sv hv cv wr) (fun i _ _ _ _ => st.length - (intOf i).toNat)
      case atStart => exact h0
      case round => as_aux_lemma =>
        clear h0
        obtain ⟨⟨k, s, xs, hs, ps, ph, cs, ch, hk, rfl, rfl, rfl, rfl, hO, hH, hne, rV, rG, rC, rT, rX, hgh, kso, hhl, hlast, hxk⟩, bel, sz0⟩ := hrel
        have KS := Lib.hid kso; have GHH := Lib.hid hgh; have HLAST := Lib.hid hlast; have HHL := Lib.hid hhl
        have hpos : 0 < xs.length := List.length_pos_iff.2 hgh.hist.ne
        clear kso hlast hgh
        by_cases hlt : k < st.length
        · obtain ⟨gs, os, hsp, hcs⟩ := (HST.out.below bel (fun g o e => by
            obtain ⟨g', o', e', hr'⟩ := HST.out.at_ (by intro h; rw [h] at hlt; simp at hlt)
            have e2 := e'.symm.trans e
            have e3 : g' = g := by injection e2 with e2; injection e2
            rw [← e3]; exact range_lt hr' (by intro h; rw [show st = [] by simpa [u32s] using h] at hlt; simp at hlt))).cell hlt
          subst hsp
          have hyb := getD_lt HTT.out (by omega) k
          generalize st.getD k 0 = y at hcs hyb
          have ik : (k : Int) < (st.length : Int) := by omega
          obtain ⟨m, hm⟩ : ∃ m, xs.length = m + 1 := ⟨xs.length - 1, by omega⟩
          obtain ⟨gl, ol, hpl, hcl⟩ := hO.r32.cell (i := m) (by omega)
          obtain ⟨sl, scl, hps, hsb, rA, FS⟩ := O32.as_row hO hpos
          subst hps
          obtain ⟨rfl, rfl⟩ : gl = sl ∧ ol = 0 := by
            have := Option.some.inj hpl
            injection this with h1 h2
            exact ⟨h1.symm, h2.symm⟩
          obtain ⟨hl, hcl2, hph, hhb, rE, HAT, FH⟩ := hH.as_row (by omega)
          subst hph
          have nEG : hl ≠ G := fun h => hne (by rw [h]; rfl)
          have hlastx : xs.getD m 0 = lastX xs := by unfold lastX; rw [hm]; rfl
          rw [hlastx, Nat.zero_add] at hcl
          have hlb := GHH.out.hist.last_lt
          have hm1 : (xs.length : Int) - 1 = (m : Int) := by omega
          have im : (m : Int) < (xs.length : Int) := by omega
          have hxl : xs.length ≤ 61 := by omega
          have HM := Lib.hid hm; have HXL := Lib.hid hxl; have HXK := Lib.hid hxk
          obtain ⟨z, hz⟩ : ∃ z, z = lastX xs := ⟨_, rfl⟩
          rw [← hz] at hcl hlb
          have HZ := Lib.hid hz
          have HFS := Lib.hid FS; have HFH := Lib.hid FH; have HHAT := Lib.hid HAT
          have nAE : gl ≠ hl := row_ne rA rE (by decide)
          have nEA := Ne.symm nAE
          clear hz hlastx hm hO hH FS FH hpl HAT hne hhl
          have nglV : gl ≠ V := row_ne rA rV (by decide)
          have nVgl := Ne.symm nglV
          have nglC : gl ≠ C := row_ne rA rC (by decide)
          have nCgl := Ne.symm nglC
          have nglT : gl ≠ T := row_ne rA rT (by decide)
          have nTgl := Ne.symm nglT
          have nhlV : hl ≠ V := row_ne rE rV (by decide)
          have nVhl := Ne.symm nhlV
          have nhlC : hl ≠ C := row_ne rE rC (by decide)
          have nChl := Ne.symm nhlC
          have nhlT : hl ≠ T := row_ne rE rT (by decide)
          have nThl := Ne.symm nhlT
          have nglG : gl ≠ G := row_ne rA rG (by decide); have nGgl := Ne.symm nglG; have nhlG := nEG; have nGhl := Ne.symm nEG
          have nglhl := nAE; have nhlgl := nEA
          go_wp2_with fail
          by_cases hfit : z + y < 4294967296
          · obtain ⟨t, ht⟩ : ∃ t, t = z + y := ⟨_, rfl⟩
            refine (later_fits z y t _ ht (by omega)).mono ?_
            rintro e w6 ⟨rfl, rfl⟩
            by_cases hy : y = 0
            · subst hy
              have hy0 : (((0 : Nat) : Int) == 0) = true := by decide
              clear ht
              go_wp2_with fail
              go_roundw
              case rel => exact ⟨⟨k + 1, s, xs, hs, some ⟨gl, 0, none⟩, some ⟨hl, 0, none⟩, cs, ch, by omega, by go_num, rfl, rfl, rfl, HFS.out _ rA, HFH.out _ rE, fun h => nEG (Option.some.inj h), rV, rG, rC, rT, rX, GHH.out, KS.out, HHL.out, HLAST.out, by omega⟩, bel, sz0⟩
              case measure => simp [intOf]; omega
            · have hy0 : ((y : Int) == 0) = false := beq_eq_false_iff_ne.2 (by omega)
              have hsl : lastX xs < t := by rw [← HZ.out]; omega
              have htb : t < 4294967296 := by omega
              obtain ⟨dr, hdr⟩ : ∃ dr, dr = dl.getD k zh := ⟨_, rfl⟩
              have KDR : Hid (H32 dr) := Lib.hid (by
                rw [hdr]
                by_cases h : k < dl.length
                · rw [List.getD_eq_getElem?_getD, List.getElem?_eq_getElem h]; exact HDS.out.ok _ (List.getElem_mem h)
                · rw [List.getD_eq_getElem?_getD, List.getElem?_eq_none (by omega)]; exact zh_ok)
              have HF := GHH.out.fine (b := ⟨t, x, dr⟩) hsl htb (by omega)
              have GN := Lib.hid (GHH.out.next (dr := dr) hsl htb (by omega))
              have hzs : s.slot = z := by rw [HZ.out]; exact GHH.out.slot
              have hnl : s.next.len + 1 < 4294967296 := by have h1 := GHH.out.right; have h2 := GHH.out.len; have h3 := h1.2.2.2.2.2.2; omega
              have KB2 : Hid (Gb.mk t x zh).Ok := Lib.hid ⟨htb, KX.out, zh_ok⟩
              have KB : Hid (Gb.mk t x dr).Ok := Lib.hid ⟨htb, KX.out, KDR.out⟩
              have BB := Lib.hid (built_gb2 htb KX.out)
              have CC := Lib.hid (fun w0 h => child_any s ⟨t, x, dr⟩ w0 KS.out GHH.out.right KB.out h)
              rw [chE_zero.2 HF] at CC
              have K2 := Lib.hid (chS_ok KS.out GHH.out.right KB.out)
              have hgr : chS s ⟨t, x, dr⟩ = _ := (chS_fine HF).trans (grown_fine HF)
              have K1B := Lib.hid (tB_ok (t := t) KS.out); have K1C := Lib.hid (tC_ok (t := t) KS.out hnl); have K1D := Lib.hid (tD_ok (t := t) KS.out hnl)
              have KSD := Lib.hid (sdF_ok (t := t) (dr := dr) KS.out); have KCB := Lib.hid (cB_ok (t := t) KS.out)
              have KE : Hid (Dat.mk x (sdF s t dr) (tD s t).start (tD s t).lock (tD s t).len).Ok := Lib.hid ⟨KX.out, KSD.out, K1D.out.start, K1D.out.lock, K1D.out.len⟩
              have ENX : Hid ((chS s ⟨t, x, dr⟩).next = Dat.mk x (sdF s t dr) (tD s t).start (tD s t).lock (tD s t).len) := Lib.hid (by rw [hgr]; exact (tE_next GHH.out.nled GHH.out.led).symm)
              have ENW : Hid ((chS s ⟨t, x, dr⟩).now = cB s t) := Lib.hid (by rw [hgr]; rfl)
              have ECT : Hid ((chS s ⟨t, x, dr⟩).count = s.count + entN s.slot t) := Lib.hid (by rw [hgr])
              have EPV : Hid ((chS s ⟨t, x, dr⟩).prev = digS s) := Lib.hid (by rw [hgr])
              have hcc := HF.count
              have hent : entN s.slot t = if z / 24 < t / 24 then 1 else 0 := by rw [hzs]; rfl
              have HTB : Hid (tB s t = if z / 24 < t / 24 then ⟨s.next.led, s.next.seed, digS s, zh, 0⟩ else s.next) := Lib.hid (by unfold tB; rw [hzs])
              have HTC : Hid (tC s t = ⟨(tB s t).led, (tB s t).seed, (tB s t).start, (tB s t).lock, (tB s t).len + 1⟩) := Lib.hid rfl
              have HTD : Hid (tD s t = if t % 24 < 16 then ⟨(tC s t).led, (tC s t).seed, (tC s t).start, digS s, (tC s t).len⟩ else tC s t) := Lib.hid rfl
              have HSD : Hid (sdF s t dr = if t % 24 < 16 then seedN s.next.seed dr else s.next.seed) := Lib.hid rfl
              have HCB : Hid (cB s t = if z / 24 < t / 24 then s.next else s.now) := Lib.hid (by unfold cB; rw [hzs])
              have KDG := Lib.hid (digS_ok s)
              have CE1 := Lib.hid (fun w0 => Slot.repoch_nat t w0 htb)
              have CE2 := Lib.hid (fun w0 => Slot.repoch_nat z w0 hlb)
              have CLK := Lib.hid (fun w0 => Slot.rlocking_nat t w0 htb)
              have HHX : Hid (Has hcl2 (m * 32) (u8s (digS s))) := Lib.hid (HHAT.out m (digS s) (by have := HLAST.out; rw [HM.out] at this; exact this))
              have CSU := Lib.hid (fun w0 => sub_nat t w0 htb)
              obtain ⟨cnn, hcnt⟩ : ∃ cnn, cnn = s.count + entN s.slot t := ⟨_, rfl⟩
              rw [← hcnt] at ECT
              have HCN : Hid (cnn = s.count + if z / 24 < t / 24 then 1 else 0) := Lib.hid (by rw [hcnt, hent])
              have hcb : cnn < 4294967296 := by rw [hcnt]; exact hcc
              obtain ⟨s2, hs2⟩ : ∃ s2, s2 = chS s ⟨t, x, dr⟩ := ⟨_, rfl⟩
              rw [← hs2] at CC K2 ENX ENW ECT EPV GN
              have HDR := Lib.hid hdr
              obtain ⟨qa, hqa⟩ : ∃ q, q = z / 24 := ⟨_, rfl⟩
              obtain ⟨qb, hqb⟩ : ∃ q, q = t / 24 := ⟨_, rfl⟩
              rw [← hqa] at CE2
              rw [← hqb] at CE1
              rw [← hqa, ← hqb] at HTB HCB HCN
              obtain ⟨lk, hlk⟩ : ∃ lk : Bool, lk = decide (t % 24 < 16) := ⟨_, rfl⟩
              rw [← hlk] at CLK
              have HLK := Lib.hid hlk
              clear hqa hqb hlk
              clear hs2 hgr HF hsl hcc hent hcnt ht hdr hzs hnl hcs hcl
              go_upto_if 74 with (first
                | ((with_reducible refine at_slot 69 ?_); (refine arm_load (o := ⟨some 69, _, _, _, _, _⟩) rfl _ _ rfl X 0 rfl (u8s x) ((show Has (u8s x) 0 (u8s x) from Has.refl _).range (rX)) (szH KX.out) ?_))
                | ((with_reducible refine at_slot 70 ?_); (refine arm_build (o := ⟨some 70, _, _, _, _, _⟩) rfl _ _ rfl (gcs ⟨t, x, zh⟩) (by simp only [List.map_toArray, List.map_cons, List.map_nil]; exact BB.out) ?_))
                | ((with_reducible refine at_slot 19 ?_); (refine arm_alloc (o := ⟨some 19, _, _, _, _, _⟩) rfl _ rfl (gcs zg) z_gb ?_); intro B v101 Be hv101 nv101)
                | ((with_reducible refine arm_store (o := ⟨none, _, _, _, _, _⟩) rfl _ _ _ rfl B 0 rfl (gcs ⟨t, x, zh⟩) rfl _ _ (hv101) (fitG KB2.out) (gcs_one _) (sz_gb KB2.out) ?_); intro v102 hv102 ov102 sv102))
              have q0 := Be.out
              have q1 := nv101.size
              have q2 := sv102.out
              have q3 := rV.lt
              have q4 := rG.lt
              have q5 := rC.lt
              have q6 := rT.lt
              have q7 := rX.lt
              have q8 := rA.lt
              have q9 := rE.lt
              have q10 := bel.size
              have lB : w.heap.size ≤ B := by omega
              have nVB : V ≠ B := by omega
              have nBV : B ≠ V := by omega
              have nGB : G ≠ B := by omega
              have nBG : B ≠ G := by omega
              have nCB : C ≠ B := by omega
              have nBC : B ≠ C := by omega
              have nTB : T ≠ B := by omega
              have nBT : B ≠ T := by omega
              have nXB : X ≠ B := by omega
              have nBX : B ≠ X := by omega
              have nglB : gl ≠ B := by omega
              have nBgl : B ≠ gl := by omega
              have nhlB : hl ≠ B := by omega
              have nBhl : B ≠ hl := by omega
              have rV103 : Row v102 V 35 (scs s) := ((rV.old nv101.below).only ov102 nVB)
              have rG103 : Row v102 G 23 (u8s s.next.seed) := ((rG.old nv101.below).only ov102 nGB)
              have rC103 : Row v102 C 31 (dcs s.now) := ((rC.old nv101.below).only ov102 nCB)
              have rT103 : Row v102 T 31 (dcs s.next) := ((rT.old nv101.below).only ov102 nTB)
              have rX103 : Row v102 X 23 (u8s x) := ((rX.old nv101.below).only ov102 nXB)
              have rgl103 : Row v102 gl 24 (scl) := ((rA.old nv101.below).only ov102 nglB)
              have rhl103 : Row v102 hl 23 (hcl2) := ((rE.old nv101.below).only ov102 nhlB)
              have rB103 : Row v102 B 37 (gcs ⟨t, x, zh⟩) := (hv102.congr (allG KB2.out))
              have bel103 : Below w.heap.size w v102 := (below_only (below_step bel (by omega) nv101.below) ov102 lB (by omega))
              have sz103 : base ≤ v102.heap.size := by omega
              clear q0 q1 q2 q3 q4 q5 q6 q7 q8 q9 q10 rV rG rC rT rX rA rE bel sz0 Be hv101 nv101 hv102 ov102 sv102
              go_cut [] (fun wx => Row wx V 35 (scs s) ∧ Row wx G 23 (u8s s.next.seed) ∧ Row wx C 31 (dcs s.now) ∧ Row wx T 31 (dcs s.next) ∧ Row wx X 23 (u8s x) ∧ Row wx gl 24 (scl) ∧ Row wx hl 23 (hcl2) ∧ Row wx B 37 (gcs ⟨t, x, dr⟩) ∧ Below w.heap.size w wx ∧ base ≤ wx.heap.size)
              case first => as_aux_lemma =>
                by_cases hkd : k < dl.length
                · have hd1 : decide ((k : Int) < (dl.length : Int)) = true := decide_eq_true (by omega)
                  have hd2 : decide (k < dl.length) = true := decide_eq_true hkd
                  have ikd : (k : Int) < (dl.length : Int) := by omega
                  obtain ⟨gd, od, hdp, hdg, hdr2⟩ := HDS.out.at_ k dr (by rw [HDR.out, List.getD_eq_getElem?_getD, List.getElem?_eq_getElem hkd]; rfl)
                  subst hdp
                  have RD := Lib.hid hdr2
                  clear hdr2
                  go_wp2_with (first
                    | ((with_reducible refine at_slot 77 ?_); (refine arm_indexN (o := ⟨some 77, _, _, _, _, _⟩) rfl _ _ _ rfl 23 32 und_hs (by kernel_rfl) gd od dl.length dc rfl .i64 k rfl hkd ?_))
                    | ((with_reducible refine at_slot 78 ?_); (refine arm_load (o := ⟨some 78, _, _, _, _, _⟩) rfl _ _ rfl gd (od + k * 32) rfl (u8s dr) (range_block RD.out (bel103.block gd hdg)) (szH KDR.out) ?_))
                    | ((with_reducible refine arm_store (o := ⟨none, _, _, _, _, _⟩) rfl _ _ _ rfl B 33 rfl (u8s dr) rfl _ _ (rB103) (by rw [gcs_len KB2.out, h_len KDR.out]; omega) (u8s_one _) (szH KDR.out) ?_); intro v104 hv104 ov104 sv104))
                  have q0 := sv104.out
                  have q1 := rV103.lt
                  have q2 := rG103.lt
                  have q3 := rC103.lt
                  have q4 := rT103.lt
                  have q5 := rX103.lt
                  have q6 := rgl103.lt
                  have q7 := rhl103.lt
                  have q8 := rB103.lt
                  have q9 := bel103.size
                  have rV105 : Row v104 V 35 (scs s) := (rV103.only ov104 nVB)
                  have rG105 : Row v104 G 23 (u8s s.next.seed) := (rG103.only ov104 nGB)
                  have rC105 : Row v104 C 31 (dcs s.now) := (rC103.only ov104 nCB)
                  have rT105 : Row v104 T 31 (dcs s.next) := (rT103.only ov104 nTB)
                  have rX105 : Row v104 X 23 (u8s x) := (rX103.only ov104 nXB)
                  have rgl105 : Row v104 gl 24 (scl) := (rgl103.only ov104 nglB)
                  have rhl105 : Row v104 hl 23 (hcl2) := (rhl103.only ov104 nhlB)
                  have rB105 : Row v104 B 37 (gcs ⟨t, x, dr⟩) := (hv104.congr (lay_gdraw KB2.out KDR.out))
                  have bel105 : Below w.heap.size w v104 := (below_only bel103 ov104 lB (by omega))
                  have sz105 : base ≤ v104.heap.size := by omega
                  clear q0 q1 q2 q3 q4 q5 q6 q7 q8 q9 rV103 rG103 rC103 rT103 rX103 rgl103 rhl103 rB103 bel103 sz103 hv104 ov104 sv104
                  go_meet
                  exact ⟨rV105, rG105, rC105, rT105, rX105, rgl105, rhl105, rB105, bel105, sz105⟩
                · have hd1 : decide ((k : Int) < (dl.length : Int)) = false := decide_eq_false (by omega)
                  have hd2 : decide (k < dl.length) = false := decide_eq_false hkd
                  have hdz : dr = zh := by rw [HDR.out, List.getD_eq_getElem?_getD, List.getElem?_eq_none (by omega)]; rfl
                  have HDZ := Lib.hid (show gcs ⟨t, x, zh⟩ = gcs ⟨t, x, dr⟩ by rw [hdz])
                  clear hdz
                  go_wp2_with fail
                  go_meet
                  exact ⟨rV103, rG103, rC103, rT103, rX103, rgl103, rhl103, rB103.congr HDZ.out, bel103, sz103⟩
              case rest => as_aux_lemma =>
                clear rV103 rG103 rC103 rT103 rX103 rgl103 rhl103 rB103 bel103 sz103
                obtain ⟨rV104, rG104, rC104, rT104, rX104, rgl104, rhl104, rB104, bel104, sz104⟩ := hcut
                have HX1 : Hid (Has hcl2 (m * 32) (u8s (digS s))) := HHX
                have hm2 : (hs.length : Int) - 1 = (m : Int) := by have := HHL.out; have := HM.out; omega
                go_wp2_with (first
                  | ((with_reducible refine at_slot 84 ?_); (refine arm_indexN (o := ⟨some 84, _, _, _, _, _⟩) rfl _ _ _ rfl 23 32 und_hs (by kernel_rfl) hl 0 hs.length ch rfl .i64 m rfl (by have := HHL.out; have := HM.out; omega) ?_))
                  | ((with_reducible refine at_slot 85 ?_); (refine arm_load (o := ⟨some 85, _, _, _, _, _⟩) rfl _ _ rfl hl (0 + m * 32) rfl (u8s (digS s)) (by rw [Nat.zero_add]; exact HX1.out.range rhl104) (szH KDG.out) ?_))
                  | ((with_reducible refine at_slot 20 ?_); (refine arm_alloc (o := ⟨some 20, _, _, _, _, _⟩) rfl _ rfl (u8s zh) zH ?_); intro P v105 Pe hv105 nv105)
                  | ((with_reducible refine arm_store (o := ⟨none, _, _, _, _, _⟩) rfl _ _ _ rfl P 0 rfl (u8s (digS s)) rfl _ _ (hv105) (fitH KDG.out) (u8s_one _) (szH KDG.out) ?_); intro v106 hv106 ov106 sv106))
                have q0 := Pe.out
                have q1 := nv105.size
                have q2 := sv106.out
                have q3 := rV104.lt
                have q4 := rG104.lt
                have q5 := rC104.lt
                have q6 := rT104.lt
                have q7 := rX104.lt
                have q8 := rgl104.lt
                have q9 := rhl104.lt
                have q10 := rB104.lt
                have q11 := bel104.size
                have lP : w.heap.size ≤ P := by omega
                have nVP : V ≠ P := by omega
                have nPV : P ≠ V := by omega
                have nGP : G ≠ P := by omega
                have nPG : P ≠ G := by omega
                have nCP : C ≠ P := by omega
                have nPC : P ≠ C := by omega
                have nTP : T ≠ P := by omega
                have nPT : P ≠ T := by omega
                have nXP : X ≠ P := by omega
                have nPX : P ≠ X := by omega
                have nglP : gl ≠ P := by omega
                have nPgl : P ≠ gl := by omega
                have nhlP : hl ≠ P := by omega
                have nPhl : P ≠ hl := by omega
                have nBP : B ≠ P := by omega
                have nPB : P ≠ B := by omega
                have rV107 : Row v106 V 35 (scs s) := ((rV104.old nv105.below).only ov106 nVP)
                have rG107 : Row v106 G 23 (u8s s.next.seed) := ((rG104.old nv105.below).only ov106 nGP)
                have rC107 : Row v106 C 31 (dcs s.now) := ((rC104.old nv105.below).only ov106 nCP)
                have rT107 : Row v106 T 31 (dcs s.next) := ((rT104.old nv105.below).only ov106 nTP)
                have rX107 : Row v106 X 23 (u8s x) := ((rX104.old nv105.below).only ov106 nXP)
                have rgl107 : Row v106 gl 24 (scl) := ((rgl104.old nv105.below).only ov106 nglP)
                have rhl107 : Row v106 hl 23 (hcl2) := ((rhl104.old nv105.below).only ov106 nhlP)
                have rB107 : Row v106 B 37 (gcs ⟨t, x, dr⟩) := ((rB104.old nv105.below).only ov106 nBP)
                have rP107 : Row v106 P 23 (u8s (digS s)) := (hv106.congr (allH KDG.out))
                have bel107 : Below w.heap.size w v106 := (below_only (below_step bel104 (by omega) nv105.below) ov106 lP (by omega))
                have sz107 : base ≤ v106.heap.size := by omega
                clear q0 q1 q2 q3 q4 q5 q6 q7 q8 q9 q10 q11 rV104 rG104 rC104 rT104 rX104 rgl104 rhl104 rB104 bel104 sz104 Pe hv105 nv105 hv106 ov106 sv106
                refine (CE1.out _).mono ?_
                rintro e1 z1 ⟨rfl, rfl⟩
                go_wp2_with fail
                refine (CE2.out _).mono ?_
                rintro e2 z2 ⟨rfl, rfl⟩
                go_upto_if 90 with fail
                go_cut [13] (fun cc wx => cc = .int .u32 (cnn : Int) ∧ Row wx V 35 (scs s) ∧ Row wx G 23 (u8s s.next.seed) ∧ Row wx C 31 (dcs (cB s t)) ∧ Row wx T 31 (dcs (tB s t)) ∧ Row wx X 23 (u8s x) ∧ Row wx gl 24 (scl) ∧ Row wx hl 23 (hcl2) ∧ Row wx B 37 (gcs ⟨t, x, dr⟩) ∧ Row wx P 23 (u8s (digS s)) ∧ Below w.heap.size w wx ∧ base ≤ wx.heap.size)
                case first => as_aux_lemma =>
                  by_cases htu : qa < qb
                  · have hd1 : decide ((qa : Int) < (qb : Int)) = true := decide_eq_true (by omega)
                    have hd2 : decide (qa < qb) = true := decide_eq_true htu
                    have hti : (qa : Int) < (qb : Int) := by omega
                    have HAC : Hid (((s.count : Int) + 1) % 4294967296 = (cnn : Int)) := Lib.hid (by have := HCN.out; rw [if_pos htu] at this; omega)
                    have HT1 : Hid (tB s t = ⟨s.next.led, s.next.seed, digS s, zh, 0⟩) := Lib.hid (by rw [HTB.out, if_pos htu])
                    have HC1 : Hid (dcs s.next = dcs (cB s t)) := Lib.hid (by rw [HCB.out, if_pos htu])
                    have KT1 : Hid (Dat.mk s.next.led s.next.seed (digS s) s.next.lock s.next.len).Ok := Lib.hid ⟨KS.out.next.led, KS.out.next.seed, KDG.out, KS.out.next.lock, KS.out.next.len⟩
                    have KT2 : Hid (Dat.mk s.next.led s.next.seed (digS s) zh s.next.len).Ok := Lib.hid ⟨KS.out.next.led, KS.out.next.seed, KDG.out, zh_ok, KS.out.next.len⟩
                    have LT1 := Lib.hid (lay_start0 KS.out.next KDG.out)
                    have LT2 := Lib.hid (lay_lock0 KT1.out zh_ok)
                    have LT3 := Lib.hid ((set_len0 KT2.out 0).trans (congrArg dcs HT1.out.symm))
                    go_wp2_with (first
                      | ((with_reducible refine at_slot 92 ?_); (refine arm_want (.int .u32 (cnn : Int)) 92 rfl (by kernel_rfl) (run_op_add32 _ _ _ _ rfl (s.count : Int) 1 _ rfl rfl HAC.out _) ?_))
                      | ((with_reducible refine at_slot 93 ?_); (refine arm_load (o := ⟨some 93, _, _, _, _, _⟩) rfl _ _ rfl T 0 rfl (dcs s.next) ((show Has (dcs s.next) 0 (dcs s.next) from Has.refl _).range (rT107)) (sz_dat KS.out.next) ?_))
                      | ((with_reducible refine arm_store (o := ⟨none, _, _, _, _, _⟩) rfl _ _ _ rfl C 0 rfl (dcs s.next) rfl _ _ (rC107) (by rw [dcs_len KS.out.next, dcs_len KS.out.now]; omega) (dcs_one _) (sz_dat KS.out.next) ?_); intro v108 hv108 ov108 sv108)
                      | ((with_reducible refine at_slot 94 ?_); (refine arm_load (o := ⟨some 94, _, _, _, _, _⟩) rfl _ _ rfl P 0 rfl (u8s (digS s)) ((show Has (u8s (digS s)) 0 (u8s (digS s)) from Has.refl _).range ((rP107.only ov108 nPC))) (szH KDG.out) ?_))
                      | ((with_reducible refine at_slot 95 ?_); (refine arm_build (o := ⟨some 95, _, _, _, _, _⟩) rfl _ _ rfl (u8s zh) (by simp only [List.map_toArray, List.map_nil]; kernel_rfl) ?_))
                      | ((with_reducible refine arm_store (o := ⟨none, _, _, _, _, _⟩) rfl _ _ _ rfl T 64 rfl (u8s (digS s)) rfl _ _ ((rT107.only ov108 nTC)) (by rw [dcs_len KS.out.next, h_len KDG.out]; omega) (u8s_one _) (szH KDG.out) ?_); intro v109 hv109 ov109 sv109)
                      | ((with_reducible refine arm_store (o := ⟨none, _, _, _, _, _⟩) rfl _ _ _ rfl T 96 rfl (u8s zh) rfl _ _ ((hv109.congr LT1.out)) (by rw [dcs_len KT1.out, h_len zh_ok]; omega) (u8s_one _) (szH zh_ok) ?_); intro v110 hv110 ov110 sv110)
                      | ((with_reducible refine arm_store1 (o := ⟨none, _, _, _, _, _⟩) rfl _ _ _ rfl T 128 rfl .u32 (0) rfl (by kernel_rfl) _ _ ((hv110.congr LT2.out)) (by rw [dcs_len KT2.out]; omega) ?_); intro v111 hv111 ov111 sv111))
                    have q0 := sv108.out
                    have q1 := sv109.out
                    have q2 := sv110.out
                    have q3 := sv111.out
                    have q4 := rV107.lt
                    have q5 := rG107.lt
                    have q6 := rC107.lt
                    have q7 := rT107.lt
                    have q8 := rX107.lt
                    have q9 := rgl107.lt
                    have q10 := rhl107.lt
                    have q11 := rB107.lt
                    have q12 := rP107.lt
                    have q13 := bel107.size
                    have rV112 : Row v111 V 35 (scs s) := ((((rV107.only ov108 nVC).only ov109 nVT).only ov110 nVT).only ov111 nVT)
                    have rG112 : Row v111 G 23 (u8s s.next.seed) := ((((rG107.only ov108 nGC).only ov109 nGT).only ov110 nGT).only ov111 nGT)
                    have rC112 : Row v111 C 31 (dcs (cB s t)) := ((((hv108.congr ((lay_all _ _ (by rw [dcs_len KS.out.next, dcs_len KS.out.now])).trans HC1.out)).only ov109 nCT).only ov110 nCT).only ov111 nCT)
                    have rT112 : Row v111 T 31 (dcs (tB s t)) := (hv111.congr LT3.out)
                    have rX112 : Row v111 X 23 (u8s x) := ((((rX107.only ov108 nXC).only ov109 nXT).only ov110 nXT).only ov111 nXT)
                    have rgl112 : Row v111 gl 24 (scl) := ((((rgl107.only ov108 nglC).only ov109 nglT).only ov110 nglT).only ov111 nglT)
                    have rhl112 : Row v111 hl 23 (hcl2) := ((((rhl107.only ov108 nhlC).only ov109 nhlT).only ov110 nhlT).only ov111 nhlT)
                    have rB112 : Row v111 B 37 (gcs ⟨t, x, dr⟩) := ((((rB107.only ov108 nBC).only ov109 nBT).only ov110 nBT).only ov111 nBT)
                    have rP112 : Row v111 P 23 (u8s (digS s)) := ((((rP107.only ov108 nPC).only ov109 nPT).only ov110 nPT).only ov111 nPT)
                    have bel112 : Below w.heap.size w v111 := (below_only (below_only (below_only (below_only bel107 ov108 lC (by omega)) ov109 lT (by omega)) ov110 lT (by omega)) ov111 lT (by omega))
                    have sz112 : base ≤ v111.heap.size := by omega
                    clear q0 q1 q2 q3 q4 q5 q6 q7 q8 q9 q10 q11 q12 q13 rV107 rG107 rC107 rT107 rX107 rgl107 rhl107 rB107 rP107 bel107 sz107 hv108 ov108 sv108 hv109 ov109 sv109 hv110 ov110 sv110 hv111 ov111 sv111
                    go_meet
                    exact ⟨rfl, rV112, rG112, rC112, rT112, rX112, rgl112, rhl112, rB112, rP112, bel112, sz112⟩
                  · have hd1 : decide ((qa : Int) < (qb : Int)) = false := decide_eq_false (by omega)
                    have hd2 : decide (qa < qb) = false := decide_eq_false htu
                    have hti : ¬ (qa : Int) < (qb : Int) := by omega
                    have HCQ : Hid (s.count = cnn) := Lib.hid (by have := HCN.out; rw [if_neg htu] at this; exact this.symm)
                    have HT1 : Hid (dcs s.next = dcs (tB s t)) := Lib.hid (by rw [HTB.out, if_neg htu])
                    have HC1 : Hid (dcs s.now = dcs (cB s t)) := Lib.hid (by rw [HCB.out, if_neg htu])
                    go_wp2_with fail
                    go_meet
                    exact ⟨by rw [HCQ.out], rV107, rG107, rC107.congr HC1.out, rT107.congr HT1.out, rX107, rgl107, rhl107, rB107, rP107, bel107, sz107⟩
                case rest => as_aux_lemma =>
                  clear rV107 rG107 rC107 rT107 rX107 rgl107 rhl107 rB107 rP107 bel107 sz107
                  obtain ⟨rfl, rV108, rG108, rC108, rT108, rX108, rgl108, rhl108, rB108, rP108, bel108, sz108⟩ := hcut
                  have HAL : Hid ((((tB s t).len : Int) + 1) % 4294967296 = (((tB s t).len + 1 : Nat) : Int)) := Lib.hid (by have h1 : (tC s t).len < 4294967296 := K1C.out.len; rw [HTC.out] at h1; have h2 : (tB s t).len + 1 < 4294967296 := h1; omega)
                  have LT1 := Lib.hid ((set_len0 K1B.out ((tB s t).len + 1)).trans (congrArg dcs HTC.out.symm))
                  go_wp2_with (first
                    | ((with_reducible refine at_slot 100 ?_); (refine arm_want (num32 (tB s t).len) 100 rfl (by kernel_rfl) (run_op_load1 _ _ rfl (.int .u32) (by kernel_rfl) rfl ⟨T, 128, none⟩ rfl (num32 (tB s t).len) (rT108.cell (show Has (dcs (tB s t)) 128 [num32 (tB s t).len] from d_len K1B.out (Has.refl _)).get)) ?_))
                    | ((with_reducible refine at_slot 101 ?_); (refine arm_want (.int .u32 (((tB s t).len + 1 : Nat) : Int)) 101 rfl (by kernel_rfl) (run_op_add32 _ _ _ _ rfl ((tB s t).len : Int) 1 _ rfl rfl HAL.out _) ?_))
                    | ((with_reducible refine arm_store1 (o := ⟨none, _, _, _, _, _⟩) rfl _ _ _ rfl T 128 rfl .u32 ((((tB s t).len + 1 : Nat) : Int)) rfl (by kernel_rfl) _ _ (rT108) (by rw [dcs_len K1B.out]; omega) ?_); intro v109 hv109 ov109 sv109))
                  have q0 := sv109.out
                  have q1 := rV108.lt
                  have q2 := rG108.lt
                  have q3 := rC108.lt
                  have q4 := rT108.lt
                  have q5 := rX108.lt
                  have q6 := rgl108.lt
                  have q7 := rhl108.lt
                  have q8 := rB108.lt
                  have q9 := rP108.lt
                  have q10 := bel108.size
                  have rV110 : Row v109 V 35 (scs s) := (rV108.only ov109 nVT)
                  have rG110 : Row v109 G 23 (u8s s.next.seed) := (rG108.only ov109 nGT)
                  have rC110 : Row v109 C 31 (dcs (cB s t)) := (rC108.only ov109 nCT)
                  have rT110 : Row v109 T 31 (dcs (tC s t)) := (hv109.congr LT1.out)
                  have rX110 : Row v109 X 23 (u8s x) := (rX108.only ov109 nXT)
                  have rgl110 : Row v109 gl 24 (scl) := (rgl108.only ov109 nglT)
                  have rhl110 : Row v109 hl 23 (hcl2) := (rhl108.only ov109 nhlT)
                  have rB110 : Row v109 B 37 (gcs ⟨t, x, dr⟩) := (rB108.only ov109 nBT)
                  have rP110 : Row v109 P 23 (u8s (digS s)) := (rP108.only ov109 nPT)
                  have bel110 : Below w.heap.size w v109 := (below_only bel108 ov109 lT (by omega))
                  have sz110 : base ≤ v109.heap.size := by omega
                  clear q0 q1 q2 q3 q4 q5 q6 q7 q8 q9 q10 rV108 rG108 rC108 rT108 rX108 rgl108 rhl108 rB108 rP108 bel108 sz108 hv109 ov109 sv109
                  refine (CLK.out _).mono ?_
                  rintro e3 z3 ⟨rfl, rfl⟩
                  go_upto_if 104 with fail
                  go_cut [] (fun wx => Row wx V 35 (scs s) ∧ Row wx G 23 (u8s (sdF s t dr)) ∧ Row wx C 31 (dcs (cB s t)) ∧ Row wx T 31 (dcs (tD s t)) ∧ Row wx X 23 (u8s x) ∧ Row wx gl 24 (scl) ∧ Row wx hl 23 (hcl2) ∧ Row wx B 37 (gcs ⟨t, x, dr⟩) ∧ Row wx P 23 (u8s (digS s)) ∧ Below w.heap.size w wx ∧ base ≤ wx.heap.size)
                  case first => as_aux_lemma =>
                    by_cases hlk : t % 24 < 16
                    · obtain rfl : lk = true := by rw [HLK.out]; exact decide_eq_true hlk
                      have HS1 : Hid (u8s (seedN s.next.seed dr) = u8s (sdF s t dr)) := Lib.hid (by rw [HSD.out, if_pos hlk])
                      have HTL : Hid (tD s t = ⟨(tC s t).led, (tC s t).seed, (tC s t).start, digS s, (tC s t).len⟩) := Lib.hid (by rw [HTD.out, if_pos hlk])
                      have LT2 := Lib.hid ((lay_lock0 K1C.out KDG.out).trans (congrArg dcs HTL.out.symm))
                      have KSE := Lib.hid (seed_ok s.next.seed dr)
                      clear hlk
                      go_wp2_with (first
                        | ((with_reducible refine at_slot 105 ?_); (refine arm_load (o := ⟨some 105, _, _, _, _, _⟩) rfl _ _ rfl G 0 rfl (u8s s.next.seed) ((show Has (u8s s.next.seed) 0 (u8s s.next.seed) from Has.refl _).range (rG110)) (szH KS.out.next.seed) ?_))
                        | ((with_reducible refine at_slot 107 ?_); (refine arm_load (o := ⟨some 107, _, _, _, _, _⟩) rfl _ _ rfl B 33 rfl (u8s dr) ((show Has (gcs ⟨t, x, dr⟩) 33 (u8s dr) from g33 KB.out).range (rB110)) (szH KDR.out) ?_)))
                      refine (rseed_any s.next.seed dr _ KS.out.next.seed KDR.out (HKR.out _ bel110)).mono ?_
                      rintro e y111 ⟨rfl, hB⟩
                      have rV111 : Row y111 V 35 (scs s) := rV110.old hB
                      have rG111 : Row y111 G 23 (u8s s.next.seed) := rG110.old hB
                      have rC111 : Row y111 C 31 (dcs (cB s t)) := rC110.old hB
                      have rT111 : Row y111 T 31 (dcs (tC s t)) := rT110.old hB
                      have rX111 : Row y111 X 23 (u8s x) := rX110.old hB
                      have rgl111 : Row y111 gl 24 (scl) := rgl110.old hB
                      have rhl111 : Row y111 hl 23 (hcl2) := rhl110.old hB
                      have rB111 : Row y111 B 37 (gcs ⟨t, x, dr⟩) := rB110.old hB
                      have rP111 : Row y111 P 23 (u8s (digS s)) := rP110.old hB
                      have bel111 : Below w.heap.size w y111 := below_step bel110 bel110.size hB
                      have sz111 : base ≤ y111.heap.size := Nat.le_trans sz110 hB.size
                      clear hB rV110 rG110 rC110 rT110 rX110 rgl110 rhl110 rB110 rP110 bel110 sz110
                      go_wp2_with (first
                        | ((with_reducible refine arm_store (o := ⟨none, _, _, _, _, _⟩) rfl _ _ _ rfl G 0 rfl (u8s (seedN s.next.seed dr)) rfl _ _ (rG111) (by rw [h_len KSE.out, h_len KS.out.next.seed]; omega) (u8s_one _) (szH KSE.out) ?_); intro v112 hv112 ov112 sv112)
                        | ((with_reducible refine at_slot 109 ?_); (refine arm_load (o := ⟨some 109, _, _, _, _, _⟩) rfl _ _ rfl P 0 rfl (u8s (digS s)) ((show Has (u8s (digS s)) 0 (u8s (digS s)) from Has.refl _).range ((rP111.only ov112 nPG))) (szH KDG.out) ?_))
                        | ((with_reducible refine arm_store (o := ⟨none, _, _, _, _, _⟩) rfl _ _ _ rfl T 96 rfl (u8s (digS s)) rfl _ _ ((rT111.only ov112 nTG)) (by rw [dcs_len K1C.out, h_len KDG.out]; omega) (u8s_one _) (szH KDG.out) ?_); intro v113 hv113 ov113 sv113))
                      have q0 := sv112.out
                      have q1 := sv113.out
                      have q2 := rV111.lt
                      have q3 := rG111.lt
                      have q4 := rC111.lt
                      have q5 := rT111.lt
                      have q6 := rX111.lt
                      have q7 := rgl111.lt
                      have q8 := rhl111.lt
                      have q9 := rB111.lt
                      have q10 := rP111.lt
                      have q11 := bel111.size
                      have rV114 : Row v113 V 35 (scs s) := ((rV111.only ov112 nVG).only ov113 nVT)
                      have rG114 : Row v113 G 23 (u8s (sdF s t dr)) := ((hv112.congr ((lay_all _ _ (by rw [h_len KSE.out, h_len KS.out.next.seed])).trans HS1.out)).only ov113 nGT)
                      have rC114 : Row v113 C 31 (dcs (cB s t)) := ((rC111.only ov112 nCG).only ov113 nCT)
                      have rT114 : Row v113 T 31 (dcs (tD s t)) := (hv113.congr LT2.out)
                      have rX114 : Row v113 X 23 (u8s x) := ((rX111.only ov112 nXG).only ov113 nXT)
                      have rgl114 : Row v113 gl 24 (scl) := ((rgl111.only ov112 nglG).only ov113 nglT)
                      have rhl114 : Row v113 hl 23 (hcl2) := ((rhl111.only ov112 nhlG).only ov113 nhlT)
                      have rB114 : Row v113 B 37 (gcs ⟨t, x, dr⟩) := ((rB111.only ov112 nBG).only ov113 nBT)
                      have rP114 : Row v113 P 23 (u8s (digS s)) := ((rP111.only ov112 nPG).only ov113 nPT)
                      have bel114 : Below w.heap.size w v113 := (below_only (below_only bel111 ov112 lG (by omega)) ov113 lT (by omega))
                      have sz114 : base ≤ v113.heap.size := by omega
                      clear q0 q1 q2 q3 q4 q5 q6 q7 q8 q9 q10 q11 rV111 rG111 rC111 rT111 rX111 rgl111 rhl111 rB111 rP111 bel111 sz111 hv112 ov112 sv112 hv113 ov113 sv113
                      go_meet
                      exact ⟨rV114, rG114, rC114, rT114, rX114, rgl114, rhl114, rB114, rP114, bel114, sz114⟩
                    · obtain rfl : lk = false := by rw [HLK.out]; exact decide_eq_false hlk
                      have HS1 : Hid (u8s s.next.seed = u8s (sdF s t dr)) := Lib.hid (by rw [HSD.out, if_neg hlk])
                      have HT1 : Hid (dcs (tC s t) = dcs (tD s t)) := Lib.hid (by rw [HTD.out, if_neg hlk])
                      clear hlk
                      go_wp2_with fail
                      go_meet
                      exact ⟨rV110, rG110.congr HS1.out, rC110, rT110.congr HT1.out, rX110, rgl110, rhl110, rB110, rP110, bel110, sz110⟩
                  case rest => as_aux_lemma =>
                    clear rV110 rG110 rC110 rT110 rX110 rgl110 rhl110 rB110 rP110 bel110 sz110
                    obtain ⟨rV111, rG111, rC111, rT111, rX111, rgl111, rhl111, rB111, rP111, bel111, sz111⟩ := hcut
                    have nx : s2.next = s2.next := rfl
                    have KF1 : Hid (Dat.mk (tD s t).led (sdF s t dr) (tD s t).start (tD s t).lock (tD s t).len).Ok := Lib.hid ⟨K1D.out.led, KSD.out, K1D.out.start, K1D.out.lock, K1D.out.len⟩
                    have LT1 := Lib.hid (lay_seed0 K1D.out KSD.out)
                    have LT2 := Lib.hid ((lay_led0 KF1.out KX.out).trans (congrArg dcs ENX.out.symm))
                    have HFT1 := Lib.hid (show 32 + (u8s (sdF s t dr)).length ≤ (dcs (tD s t)).length by rw [dcs_len K1D.out, h_len KSD.out]; omega)
                    have HFT2 := Lib.hid (show 0 + (u8s x).length ≤ (dcs (Dat.mk (tD s t).led (sdF s t dr) (tD s t).start (tD s t).lock (tD s t).len)).length by rw [dcs_len KF1.out, h_len KX.out]; omega)
                    clear nx
                    go_wp2_with fail
                    refine wp_region_held (S := fun w' => Row w' X 23 (u8s x) ∧ Row w' G 23 (u8s (sdF s t dr)) ∧ True) (by kernel_rfl) ?_
                    change wpAnyH _ _ _ _ _ _ _ _ wc.drew
                    have rV112 : Row wc.drew V 35 (scs s) := rV111
                    have rG112 : Row wc.drew G 23 (u8s (sdF s t dr)) := rG111
                    have rC112 : Row wc.drew C 31 (dcs (cB s t)) := rC111
                    have rT112 : Row wc.drew T 31 (dcs (tD s t)) := rT111
                    have rX112 : Row wc.drew X 23 (u8s x) := rX111
                    have rgl112 : Row wc.drew gl 24 (scl) := rgl111
                    have rhl112 : Row wc.drew hl 23 (hcl2) := rhl111
                    have rB112 : Row wc.drew B 37 (gcs ⟨t, x, dr⟩) := rB111
                    have rP112 : Row wc.drew P 23 (u8s (digS s)) := rP111
                    have bel112 : Below w.heap.size w wc.drew := bel111.trans ((Below.refl _ _).drew)
                    have sz112 : base ≤ wc.drew.heap.size := sz111
                    clear rV111 rG111 rC111 rT111 rX111 rgl111 rhl111 rB111 rP111 bel111 sz111
                    generalize wc.drew = y112 at rV112 rG112 rC112 rT112 rX112 rgl112 rhl112 rB112 rP112 bel112 sz112 ⊢
                    refine h_take 0 (.agg (u8s (sdF s t dr)).toArray) rfl 111 rfl (by kernel_rfl) (by kernel_rfl) (by kernel_rfl) (by kernel_rfl) (fun _ _ _ h => h) (fun w' hw => run_op_load _ _ rfl G 0 rfl (u8s (sdF s t dr)) ((show Has (u8s (sdF s t dr)) 0 (u8s (sdF s t dr)) from Has.refl _).range hw.2.1) (szH KSD.out)) ⟨rX112, rG112, trivial⟩ ?_
                    simp only [Act.put, List.setIfInBounds_toArray, List.set_cons_zero, List.set_cons_succ]
                    refine h_take 1 (.agg (u8s x).toArray) rfl 112 rfl (by kernel_rfl) (by kernel_rfl) (by kernel_rfl) (by kernel_rfl) (fun _ _ _ h => h) (fun w' hw => run_op_load _ _ rfl X 0 rfl (u8s x) ((show Has (u8s x) 0 (u8s x) from Has.refl _).range hw.1) (szH KX.out)) ⟨rX112, rG112, trivial⟩ ?_
                    simp only [Act.put, List.setIfInBounds_toArray, List.set_cons_zero, List.set_cons_succ]
                    refine h_take 2 (.pointer (some ⟨T, 32, none⟩)) rfl 113 rfl (by kernel_rfl) (by kernel_rfl) (by kernel_rfl) (by kernel_rfl) (fun _ _ _ h => h) (fun w' _ => by kernel_rfl) ⟨rX112, rG112, trivial⟩ ?_
                    simp only [Act.put, List.setIfInBounds_toArray, List.set_cons_zero, List.set_cons_succ]
                    refine h_one (i := 3) (by kernel_rfl) (o_skip rfl rfl (by kernel_rfl) (run_op_store _ _ _ rfl T 32 rfl (u8s (sdF s t dr)) rfl _ _ rT112 HFT1.out (u8s_one _) (szH KSD.out)) ?_)
                    have rq := row_setRow rT112 (lay (dcs (tD s t)) 32 (u8s (sdF s t dr)))
                    have oq := Only.setRow T y112 (lay (dcs (tD s t)) 32 (u8s (sdF s t dr))).toArray
                    generalize y112.setRow T (lay (dcs (tD s t)) 32 (u8s (sdF s t dr))).toArray = y113 at rq oq ⊢
                    have rV113 : Row y113 V 35 (scs s) := rV112.only oq nVT
                    have rG113 : Row y113 G 23 (u8s (sdF s t dr)) := rG112.only oq nGT
                    have rC113 : Row y113 C 31 (dcs (cB s t)) := rC112.only oq nCT
                    have rX113 : Row y113 X 23 (u8s x) := rX112.only oq nXT
                    have rgl113 : Row y113 gl 24 (scl) := rgl112.only oq nglT
                    have rhl113 : Row y113 hl 23 (hcl2) := rhl112.only oq nhlT
                    have rB113 : Row y113 B 37 (gcs ⟨t, x, dr⟩) := rB112.only oq nBT
                    have rP113 : Row y113 P 23 (u8s (digS s)) := rP112.only oq nPT
                    have rT113 : Row y113 T 31 (dcs ⟨(tD s t).led, sdF s t dr, (tD s t).start, (tD s t).lock, (tD s t).len⟩) := rq.congr LT1.out
                    have bel113 : Below w.heap.size w y113 := below_only bel112 oq lT bel112.size
                    have sz113 := Nat.le_trans sz112 oq.size
                    clear rV112 rG112 rC112 rX112 rgl112 rhl112 rB112 rP112 rT112 rq sz112 bel112 oq
                    refine ⟨⟨rX113, rG113, trivial⟩, ?_⟩
                    refine h_take 4 (.pointer (some ⟨T, 0, none⟩)) rfl 114 rfl (by kernel_rfl) (by kernel_rfl) (by kernel_rfl) (by kernel_rfl) (fun _ _ _ h => h) (fun w' _ => by kernel_rfl) ⟨rX113, rG113, trivial⟩ ?_
                    simp only [Act.put, List.setIfInBounds_toArray, List.set_cons_zero, List.set_cons_succ]
                    refine h_one (i := 5) (by kernel_rfl) (o_skip rfl rfl (by kernel_rfl) (run_op_store _ _ _ rfl T 0 rfl (u8s x) rfl _ _ rT113 HFT2.out (u8s_one _) (szH KX.out)) ?_)
                    have rq := row_setRow rT113 (lay (dcs ⟨(tD s t).led, sdF s t dr, (tD s t).start, (tD s t).lock, (tD s t).len⟩) 0 (u8s x))
                    have oq := Only.setRow T y113 (lay (dcs ⟨(tD s t).led, sdF s t dr, (tD s t).start, (tD s t).lock, (tD s t).len⟩) 0 (u8s x)).toArray
                    generalize y113.setRow T (lay (dcs ⟨(tD s t).led, sdF s t dr, (tD s t).start, (tD s t).lock, (tD s t).len⟩) 0 (u8s x)).toArray = y114 at rq oq ⊢
                    have rV114 : Row y114 V 35 (scs s) := rV113.only oq nVT
                    have rG114 : Row y114 G 23 (u8s (sdF s t dr)) := rG113.only oq nGT
                    have rC114 : Row y114 C 31 (dcs (cB s t)) := rC113.only oq nCT
                    have rX114 : Row y114 X 23 (u8s x) := rX113.only oq nXT
                    have rgl114 : Row y114 gl 24 (scl) := rgl113.only oq nglT
                    have rhl114 : Row y114 hl 23 (hcl2) := rhl113.only oq nhlT
                    have rB114 : Row y114 B 37 (gcs ⟨t, x, dr⟩) := rB113.only oq nBT
                    have rP114 : Row y114 P 23 (u8s (digS s)) := rP113.only oq nPT
                    have rT114 : Row y114 T 31 (dcs s2.next) := rq.congr LT2.out
                    have bel114 : Below w.heap.size w y114 := below_only bel113 oq lT bel113.size
                    have sz114 := Nat.le_trans sz113 oq.size
                    clear rV113 rG113 rC113 rX113 rgl113 rhl113 rB113 rP113 rT113 rq sz113 bel113 oq
                    refine ⟨⟨rX114, rG114, trivial⟩, ?_⟩
                    refine wpAnyH_done (by kernel_rfl) ?_ _
                    go_wp2_with (first
                      | ((with_reducible refine at_slot 116 ?_); (refine arm_load (o := ⟨some 116, _, _, _, _, _⟩) rfl _ _ rfl V 0 rfl (scs s) ((show Has (scs s) 0 (scs s) from Has.refl _).range (rV114)) (sz_sta KS.out) ?_))
                      | ((with_reducible refine at_slot 117 ?_); (refine arm_load (o := ⟨some 117, _, _, _, _, _⟩) rfl _ _ rfl B 0 rfl (gcs ⟨t, x, dr⟩) ((show Has (gcs ⟨t, x, dr⟩) 0 (gcs ⟨t, x, dr⟩) from Has.refl _).range (rB114)) (sz_gb KB.out) ?_)))
                    refine (CC.out _ (HKW.out _ bel114)).mono ?_
                    rintro e y115 ⟨rfl, hB⟩
                    have rV115 : Row y115 V 35 (scs s) := rV114.old hB
                    have rG115 : Row y115 G 23 (u8s (sdF s t dr)) := rG114.old hB
                    have rC115 : Row y115 C 31 (dcs (cB s t)) := rC114.old hB
                    have rT115 : Row y115 T 31 (dcs s2.next) := rT114.old hB
                    have rX115 : Row y115 X 23 (u8s x) := rX114.old hB
                    have rgl115 : Row y115 gl 24 (scl) := rgl114.old hB
                    have rhl115 : Row y115 hl 23 (hcl2) := rhl114.old hB
                    have rB115 : Row y115 B 37 (gcs ⟨t, x, dr⟩) := rB114.old hB
                    have rP115 : Row y115 P 23 (u8s (digS s)) := rP114.old hB
                    have bel115 : Below w.heap.size w y115 := below_step bel114 bel114.size hB
                    have sz115 : base ≤ y115.heap.size := Nat.le_trans sz114 hB.size
                    clear hB rV114 rG114 rC114 rT114 rX114 rgl114 rhl114 rB114 rP114 bel114 sz114
                    clear rB115
                    go_wp2_with (first
                      | ((with_reducible refine at_slot 21 ?_); (refine arm_alloc (o := ⟨some 21, _, _, _, _, _⟩) rfl _ rfl (scs zs) z_sta ?_); intro D v116 De hv116 nv116)
                      | ((with_reducible refine arm_store (o := ⟨none, _, _, _, _, _⟩) rfl _ _ _ rfl D 0 rfl (scs s2) rfl _ _ (hv116) (fitS K2.out) (scs_one _) (sz_sta K2.out) ?_); intro v117 hv117 ov117 sv117)
                      | ((with_reducible refine at_slot 123 ?_); (refine arm_one32 (o := ⟨some 123, _, _, _, _, _⟩) rfl _ rfl t (by simp only [List.map_toArray, List.map_cons, List.map_nil]; rfl) ?_); intro Q v118 Qe hv118 nv118)
                      | ((with_reducible refine at_slot 124 ?_); (refine arm_append32 (o := ⟨some 124, _, _, _, _, _⟩) rfl _ _ rfl base (some ⟨gl, 0, none⟩) xs.length cs xs rfl rfl (HFS.out _ (((rgl115.old nv116.below).only ov117 (by have := rgl115.lt; have := De.out; have := nv116.size; have := sv117.out; have := Qe.out; have := nv118.size; omega)).old nv118.below)) Q t rfl hv118 (by have := HXL.out; omega) (by have := sz115; have := De.out; have := nv116.size; have := sv117.out; have := Qe.out; have := nv118.size; omega) ?_); intro p2 cap2 w2 hO2 hB2 hT2))
                    have q0 := De.out
                    have q1 := nv116.size
                    have q2 := sv117.out
                    have q3 := Qe.out
                    have q4 := nv118.size
                    have q5 := rV115.lt
                    have q6 := rG115.lt
                    have q7 := rC115.lt
                    have q8 := rT115.lt
                    have q9 := rX115.lt
                    have q10 := rgl115.lt
                    have q11 := rhl115.lt
                    have q12 := rP115.lt
                    have q13 := bel115.size
                    have lD : w.heap.size ≤ D := by omega
                    have nVD : V ≠ D := by omega
                    have nDV : D ≠ V := by omega
                    have nGD : G ≠ D := by omega
                    have nDG : D ≠ G := by omega
                    have nCD : C ≠ D := by omega
                    have nDC : D ≠ C := by omega
                    have nTD : T ≠ D := by omega
                    have nDT : D ≠ T := by omega
                    have nXD : X ≠ D := by omega
                    have nDX : D ≠ X := by omega
                    have nglD : gl ≠ D := by omega
                    have nDgl : D ≠ gl := by omega
                    have nhlD : hl ≠ D := by omega
                    have nDhl : D ≠ hl := by omega
                    have nPD : P ≠ D := by omega
                    have nDP : D ≠ P := by omega
                    have lQ : w.heap.size ≤ Q := by omega
                    have nVQ : V ≠ Q := by omega
                    have nQV : Q ≠ V := by omega
                    have nGQ : G ≠ Q := by omega
                    have nQG : Q ≠ G := by omega
                    have nCQ : C ≠ Q := by omega
                    have nQC : Q ≠ C := by omega
                    have nTQ : T ≠ Q := by omega
                    have nQT : Q ≠ T := by omega
                    have nXQ : X ≠ Q := by omega
                    have nQX : Q ≠ X := by omega
                    have nglQ : gl ≠ Q := by omega
                    have nQgl : Q ≠ gl := by omega
                    have nhlQ : hl ≠ Q := by omega
                    have nQhl : Q ≠ hl := by omega
                    have nPQ : P ≠ Q := by omega
                    have nQP : Q ≠ P := by omega
                    have nDQ : D ≠ Q := by omega
                    have nQD : Q ≠ D := by omega
                    have rV119 : Row v118 V 35 (scs s) := (((rV115.old nv116.below).only ov117 nVD).old nv118.below)
                    have rG119 : Row v118 G 23 (u8s (sdF s t dr)) := (((rG115.old nv116.below).only ov117 nGD).old nv118.below)
                    have rC119 : Row v118 C 31 (dcs (cB s t)) := (((rC115.old nv116.below).only ov117 nCD).old nv118.below)
                    have rT119 : Row v118 T 31 (dcs s2.next) := (((rT115.old nv116.below).only ov117 nTD).old nv118.below)
                    have rX119 : Row v118 X 23 (u8s x) := (((rX115.old nv116.below).only ov117 nXD).old nv118.below)
                    have rgl119 : Row v118 gl 24 (scl) := (((rgl115.old nv116.below).only ov117 nglD).old nv118.below)
                    have rhl119 : Row v118 hl 23 (hcl2) := (((rhl115.old nv116.below).only ov117 nhlD).old nv118.below)
                    have rP119 : Row v118 P 23 (u8s (digS s)) := (((rP115.old nv116.below).only ov117 nPD).old nv118.below)
                    have rD119 : Row v118 D 35 (scs s2) := ((hv117.congr (allS K2.out)).old nv118.below)
                    have rQ119 : Row v118 Q 24 (u32s [t]) := hv118
                    have bel119 : Below w.heap.size w v118 := (below_step (below_only (below_step bel115 (by omega) nv116.below) ov117 lD (by omega)) (by omega) nv118.below)
                    have sz119 : base ≤ v118.heap.size := by omega
                    clear q0 q1 q2 q3 q4 q5 q6 q7 q8 q9 q10 q11 q12 q13 rV115 rG115 rC115 rT115 rX115 rgl115 rhl115 rP115 bel115 sz115 De hv116 nv116 hv117 ov117 sv117 Qe hv118 nv118
                    clear rgl119
                    clear rQ119
                    have hO3 := Lib.hid hO2
                    clear hO2
                    have rV120 : Row w2 V 35 (scs s) := hT2.out _ _ _ (by decide) rV119
                    have rG120 : Row w2 G 23 (u8s (sdF s t dr)) := hT2.out _ _ _ (by decide) rG119
                    have rC120 : Row w2 C 31 (dcs (cB s t)) := hT2.out _ _ _ (by decide) rC119
                    have rT120 : Row w2 T 31 (dcs s2.next) := hT2.out _ _ _ (by decide) rT119
                    have rX120 : Row w2 X 23 (u8s x) := hT2.out _ _ _ (by decide) rX119
                    have rhl120 : Row w2 hl 23 (hcl2) := hT2.out _ _ _ (by decide) rhl119
                    have rP120 : Row w2 P 23 (u8s (digS s)) := hT2.out _ _ _ (by decide) rP119
                    have rD120 : Row w2 D 35 (scs s2) := hT2.out _ _ _ (by decide) rD119
                    have bel120 : Below w.heap.size w w2 := bel119.trans (hB2.mono lb)
                    have sz120 : base ≤ w2.heap.size := Nat.le_trans sz119 hB2.size
                    clear rV119 rG119 rC119 rT119 rX119 rhl119 rP119 rD119 bel119 sz119 hB2 hT2
                    have hO4 := hO3.out
                    clear hO3
                    have hx2 : (xs ++ [t]).length = xs.length + 1 := by simp
                    have hcap2 := O32.cap_le hO4
                    have CWH := Lib.hid (fun w0 h => whole_any (xs ++ [t]) p2 cap2 w0 h GN.out.hist.lt_ (by rw [hx2]; have := HXL.out; omega) hcap2)
                    rw [← GN.out.min, hx2] at CWH
                    have HCV : Hid (IntKind.u32.wrap ((xs.length + 1 : Nat) : Int) = ((xs.length + 1 : Nat) : Int)) := Lib.hid (by rw [IntKind.wrap_u32]; have := HXL.out; omega)
                    have HL2 : Hid (decide ((s2.len : Int) = ((xs.length + 1 : Nat) : Int)) = !false) := Lib.hid (decide_eq_true (by rw [GN.out.len, hx2]))
                    have HC2 : Hid (decide ((s2.count : Int) = (cnn : Int)) = !false) := Lib.hid (decide_eq_true (by rw [ECT.out]))
                    have HM2 : Hid (decide ((s2.min : Int) = (s2.min : Int)) = !false) := Lib.hid (decide_eq_true rfl)
                    have HNW : Hid (Has (scs s2) 105 (dcs (cB s t))) := Lib.hid (by rw [← ENW.out]; exact p_now (s_eps K2.out))
                    have HNX : Hid (Has (scs s2) 234 (dcs s2.next)) := Lib.hid (p_next K2.out.now (s_eps K2.out))
                    have HPV : Hid (Has (scs s2) 0 (u8s (digS s))) := Lib.hid (by rw [← EPV.out]; exact h_prev K2.out)
                    clear hcap2
                    refine wp_region_held (S := fun w' => Row w' D 35 (scs s2) ∧ Row w' C 31 (dcs (cB s t)) ∧ Row w' T 31 (dcs s2.next) ∧ Row w' P 23 (u8s (digS s)) ∧ True) (by kernel_rfl) ?_
                    change wpAnyH _ _ _ _ _ _ _ _ w2.drew
                    have rV121 : Row w2.drew V 35 (scs s) := rV120
                    have rG121 : Row w2.drew G 23 (u8s (sdF s t dr)) := rG120
                    have rC121 : Row w2.drew C 31 (dcs (cB s t)) := rC120
                    have rT121 : Row w2.drew T 31 (dcs s2.next) := rT120
                    have rX121 : Row w2.drew X 23 (u8s x) := rX120
                    have rhl121 : Row w2.drew hl 23 (hcl2) := rhl120
                    have rP121 : Row w2.drew P 23 (u8s (digS s)) := rP120
                    have rD121 : Row w2.drew D 35 (scs s2) := rD120
                    have hO121 := hO4.old (Below.refl w2.heap.size w2).drew
                    have bel121 : Below w.heap.size w w2.drew := bel120.trans ((Below.refl _ _).drew)
                    have sz121 : base ≤ w2.drew.heap.size := sz120
                    clear rV120 rG120 rC120 rT120 rX120 rhl120 rP120 rD120 hO4 bel120 sz120
                    generalize w2.drew = y121 at rV121 rG121 rC121 rT121 rX121 rhl121 rP121 rD121 hO121 bel121 sz121 ⊢
                    refine h_take 0 (.int .i64 0) rfl 125 rfl (by kernel_rfl) (by kernel_rfl) (by kernel_rfl) (by kernel_rfl) (fun _ _ _ h => h) (fun w' _ => by kernel_rfl) ⟨rD121, rC121, rT121, rP121, trivial⟩ ?_
                    simp only [Act.put, List.setIfInBounds_toArray, List.set_cons_zero, List.set_cons_succ]
                    refine h_take 1 (.bool false) rfl 126 rfl (by kernel_rfl) (by kernel_rfl) (by kernel_rfl) (by kernel_rfl) (fun _ _ _ h => h) (fun w' _ => by kernel_rfl) ⟨rD121, rC121, rT121, rP121, trivial⟩ ?_
                    simp only [Act.put, List.setIfInBounds_toArray, List.set_cons_zero, List.set_cons_succ]
                    refine h_take 2 (.bool false) rfl 127 rfl (by kernel_rfl) (by kernel_rfl) (by kernel_rfl) (by kernel_rfl) (fun _ _ _ h => h) (fun w' _ => by kernel_rfl) ⟨rD121, rC121, rT121, rP121, trivial⟩ ?_
                    simp only [Act.put, List.setIfInBounds_toArray, List.set_cons_zero, List.set_cons_succ]
                    refine h_take 3 (.pointer (some ⟨D, 97, none⟩)) rfl 128 rfl (by kernel_rfl) (by kernel_rfl) (by kernel_rfl) (by kernel_rfl) (fun _ _ _ h => h) (fun w' _ => by kernel_rfl) ⟨rD121, rC121, rT121, rP121, trivial⟩ ?_
                    simp only [Act.put, List.setIfInBounds_toArray, List.set_cons_zero, List.set_cons_succ]
                    refine h_take 4 (num32 s2.len) rfl 129 rfl (by kernel_rfl) (by kernel_rfl) (by kernel_rfl) (by kernel_rfl) (fun _ _ _ h => h) (fun w' hw => run_op_load1 _ _ rfl (.int .u32) (by kernel_rfl) rfl ⟨D, 97, none⟩ rfl (num32 s2.len) (hw.1.cell (show Has (scs s2) 97 [num32 s2.len] from h_lngth K2.out).get)) ⟨rD121, rC121, rT121, rP121, trivial⟩ ?_
                    simp only [Act.put, List.setIfInBounds_toArray, List.set_cons_zero, List.set_cons_succ]
                    refine h_take 5 (.slice p2 (xs.length + 1) cap2) rfl 130 rfl (by kernel_rfl) (by kernel_rfl) (by kernel_rfl) (by kernel_rfl) (fun _ _ _ h => h) (fun w' _ => by kernel_rfl) ⟨rD121, rC121, rT121, rP121, trivial⟩ ?_
                    simp only [Act.put, List.setIfInBounds_toArray, List.set_cons_zero, List.set_cons_succ]
                    refine h_take 6 (.int .i64 ((xs.length + 1 : Nat) : Int)) rfl 131 rfl (by kernel_rfl) (by kernel_rfl) (by kernel_rfl) (by kernel_rfl) (fun _ _ _ h => h) (fun w' _ => by kernel_rfl) ⟨rD121, rC121, rT121, rP121, trivial⟩ ?_
                    simp only [Act.put, List.setIfInBounds_toArray, List.set_cons_zero, List.set_cons_succ]
                    refine h_take 7 (.int .u32 ((xs.length + 1 : Nat) : Int)) rfl 132 rfl (by kernel_rfl) (by kernel_rfl) (by kernel_rfl) (by kernel_rfl) (fun _ _ _ h => h) (fun w' _ => run_op_conv _ _ _ rfl .i64 .u32 .i64 (by kernel_rfl) (by kernel_rfl) ((xs.length + 1 : Nat) : Int) rfl _ HCV.out w') ⟨rD121, rC121, rT121, rP121, trivial⟩ ?_
                    simp only [Act.put, List.setIfInBounds_toArray, List.set_cons_zero, List.set_cons_succ]
                    refine h_take 8 (.bool false) rfl 133 rfl (by kernel_rfl) (by kernel_rfl) (by kernel_rfl) (by kernel_rfl) (fun _ _ _ h => h) (fun w' _ => cmp_neq _ _ .u32 (by kernel_rfl) _ _ rfl .u32 (s2.len : Int) ((xs.length + 1 : Nat) : Int) rfl rfl false HL2.out w') ⟨rD121, rC121, rT121, rP121, trivial⟩ ?_
                    simp only [Act.put, List.setIfInBounds_toArray, List.set_cons_zero, List.set_cons_succ]
                    refine h_take 9 (.bool false) rfl 134 rfl (by kernel_rfl) (by kernel_rfl) (by kernel_rfl) (by kernel_rfl) (fun _ _ _ h => h) (fun w' _ => by kernel_rfl) ⟨rD121, rC121, rT121, rP121, trivial⟩ ?_
                    simp only [Act.put, List.setIfInBounds_toArray, List.set_cons_zero, List.set_cons_succ]
                    refine h_take 10 (.bool false) rfl 135 rfl (by kernel_rfl) (by kernel_rfl) (by kernel_rfl) (by kernel_rfl) (fun _ _ _ h => h) (fun w' _ => by kernel_rfl) ⟨rD121, rC121, rT121, rP121, trivial⟩ ?_
                    simp only [Act.put, List.setIfInBounds_toArray, List.set_cons_zero, List.set_cons_succ]
                    refine h_take 11 (.pointer (some ⟨D, 98, none⟩)) rfl 136 rfl (by kernel_rfl) (by kernel_rfl) (by kernel_rfl) (by kernel_rfl) (fun _ _ _ h => h) (fun w' _ => by kernel_rfl) ⟨rD121, rC121, rT121, rP121, trivial⟩ ?_
                    simp only [Act.put, List.setIfInBounds_toArray, List.set_cons_zero, List.set_cons_succ]
                    refine h_take 12 (num32 s2.count) rfl 137 rfl (by kernel_rfl) (by kernel_rfl) (by kernel_rfl) (by kernel_rfl) (fun _ _ _ h => h) (fun w' hw => run_op_load1 _ _ rfl (.int .u32) (by kernel_rfl) rfl ⟨D, 98, none⟩ rfl (num32 s2.count) (hw.1.cell (show Has (scs s2) 98 [num32 s2.count] from h_cnt K2.out).get)) ⟨rD121, rC121, rT121, rP121, trivial⟩ ?_
                    simp only [Act.put, List.setIfInBounds_toArray, List.set_cons_zero, List.set_cons_succ]
                    refine h_take 13 (.int .u32 (cnn : Int)) rfl 138 rfl (by kernel_rfl) (by kernel_rfl) (by kernel_rfl) (by kernel_rfl) (fun _ _ _ h => h) (fun w' _ => by kernel_rfl) ⟨rD121, rC121, rT121, rP121, trivial⟩ ?_
                    simp only [Act.put, List.setIfInBounds_toArray, List.set_cons_zero, List.set_cons_succ]
                    refine h_take 14 (.bool false) rfl 139 rfl (by kernel_rfl) (by kernel_rfl) (by kernel_rfl) (by kernel_rfl) (fun _ _ _ h => h) (fun w' _ => cmp_neq _ _ .u32 (by kernel_rfl) _ _ rfl .u32 (s2.count : Int) (cnn : Int) rfl rfl false HC2.out w') ⟨rD121, rC121, rT121, rP121, trivial⟩ ?_
                    simp only [Act.put, List.setIfInBounds_toArray, List.set_cons_zero, List.set_cons_succ]
                    refine h_take 15 (.bool false) rfl 140 rfl (by kernel_rfl) (by kernel_rfl) (by kernel_rfl) (by kernel_rfl) (fun _ _ _ h => h) (fun w' _ => by kernel_rfl) ⟨rD121, rC121, rT121, rP121, trivial⟩ ?_
                    simp only [Act.put, List.setIfInBounds_toArray, List.set_cons_zero, List.set_cons_succ]
                    refine h_take 16 (.bool false) rfl 141 rfl (by kernel_rfl) (by kernel_rfl) (by kernel_rfl) (by kernel_rfl) (fun _ _ _ h => h) (fun w' _ => by kernel_rfl) ⟨rD121, rC121, rT121, rP121, trivial⟩ ?_
                    simp only [Act.put, List.setIfInBounds_toArray, List.set_cons_zero, List.set_cons_succ]
                    refine h_take 17 (.pointer (some ⟨D, 105, none⟩)) rfl 142 rfl (by kernel_rfl) (by kernel_rfl) (by kernel_rfl) (by kernel_rfl) (fun _ _ _ h => h) (fun w' _ => by kernel_rfl) ⟨rD121, rC121, rT121, rP121, trivial⟩ ?_
                    simp only [Act.put, List.setIfInBounds_toArray, List.set_cons_zero, List.set_cons_succ]
                    refine h_take 18 (.pointer (some ⟨D, 105, none⟩)) rfl 143 rfl (by kernel_rfl) (by kernel_rfl) (by kernel_rfl) (by kernel_rfl) (fun _ _ _ h => h) (fun w' _ => by kernel_rfl) ⟨rD121, rC121, rT121, rP121, trivial⟩ ?_
                    simp only [Act.put, List.setIfInBounds_toArray, List.set_cons_zero, List.set_cons_succ]
                    refine h_take 19 (.agg (dcs (cB s t)).toArray) rfl 144 rfl (by kernel_rfl) (by kernel_rfl) (by kernel_rfl) (by kernel_rfl) (fun _ _ _ h => h) (fun w' hw => run_op_load _ _ rfl D 105 rfl (dcs (cB s t)) ((show Has (scs s2) 105 (dcs (cB s t)) from HNW.out).range hw.1) (sz_dat KCB.out)) ⟨rD121, rC121, rT121, rP121, trivial⟩ ?_
                    simp only [Act.put, List.setIfInBounds_toArray, List.set_cons_zero, List.set_cons_succ]
                    refine h_take 20 (.agg (dcs (cB s t)).toArray) rfl 145 rfl (by kernel_rfl) (by kernel_rfl) (by kernel_rfl) (by kernel_rfl) (fun _ _ _ h => h) (fun w' hw => run_op_load _ _ rfl C 0 rfl (dcs (cB s t)) ((show Has (dcs (cB s t)) 0 (dcs (cB s t)) from Has.refl _).range hw.2.1) (sz_dat KCB.out)) ⟨rD121, rC121, rT121, rP121, trivial⟩ ?_
                    simp only [Act.put, List.setIfInBounds_toArray, List.set_cons_zero, List.set_cons_succ]
                    refine h_take 21 (.bool false) rfl 146 rfl (by kernel_rfl) (by kernel_rfl) (by kernel_rfl) (by kernel_rfl) (fun _ _ _ h => h) (fun w' _ => run_op_neqDat (cB s t) KCB.out _ _ _ rfl rfl rfl w') ⟨rD121, rC121, rT121, rP121, trivial⟩ ?_
                    simp only [Act.put, List.setIfInBounds_toArray, List.set_cons_zero, List.set_cons_succ]
                    refine h_take 22 (.bool false) rfl 147 rfl (by kernel_rfl) (by kernel_rfl) (by kernel_rfl) (by kernel_rfl) (fun _ _ _ h => h) (fun w' _ => by kernel_rfl) ⟨rD121, rC121, rT121, rP121, trivial⟩ ?_
                    simp only [Act.put, List.setIfInBounds_toArray, List.set_cons_zero, List.set_cons_succ]
                    refine h_take 23 (.bool false) rfl 148 rfl (by kernel_rfl) (by kernel_rfl) (by kernel_rfl) (by kernel_rfl) (fun _ _ _ h => h) (fun w' _ => by kernel_rfl) ⟨rD121, rC121, rT121, rP121, trivial⟩ ?_
                    simp only [Act.put, List.setIfInBounds_toArray, List.set_cons_zero, List.set_cons_succ]
                    refine h_take 24 (.pointer (some ⟨D, 105, none⟩)) rfl 149 rfl (by kernel_rfl) (by kernel_rfl) (by kernel_rfl) (by kernel_rfl) (fun _ _ _ h => h) (fun w' _ => by kernel_rfl) ⟨rD121, rC121, rT121, rP121, trivial⟩ ?_
                    simp only [Act.put, List.setIfInBounds_toArray, List.set_cons_zero, List.set_cons_succ]
                    refine h_take 25 (.pointer (some ⟨D, 234, none⟩)) rfl 150 rfl (by kernel_rfl) (by kernel_rfl) (by kernel_rfl) (by kernel_rfl) (fun _ _ _ h => h) (fun w' _ => by kernel_rfl) ⟨rD121, rC121, rT121, rP121, trivial⟩ ?_
                    simp only [Act.put, List.setIfInBounds_toArray, List.set_cons_zero, List.set_cons_succ]
                    refine h_take 26 (.agg (dcs s2.next).toArray) rfl 151 rfl (by kernel_rfl) (by kernel_rfl) (by kernel_rfl) (by kernel_rfl) (fun _ _ _ h => h) (fun w' hw => run_op_load _ _ rfl D 234 rfl (dcs s2.next) ((show Has (scs s2) 234 (dcs s2.next) from HNX.out).range hw.1) (sz_dat K2.out.next)) ⟨rD121, rC121, rT121, rP121, trivial⟩ ?_
                    simp only [Act.put, List.setIfInBounds_toArray, List.set_cons_zero, List.set_cons_succ]
                    refine h_take 27 (.agg (dcs s2.next).toArray) rfl 152 rfl (by kernel_rfl) (by kernel_rfl) (by kernel_rfl) (by kernel_rfl) (fun _ _ _ h => h) (fun w' hw => run_op_load _ _ rfl T 0 rfl (dcs s2.next) ((show Has (dcs s2.next) 0 (dcs s2.next) from Has.refl _).range hw.2.2.1) (sz_dat K2.out.next)) ⟨rD121, rC121, rT121, rP121, trivial⟩ ?_
                    simp only [Act.put, List.setIfInBounds_toArray, List.set_cons_zero, List.set_cons_succ]
                    refine h_take 28 (.bool false) rfl 153 rfl (by kernel_rfl) (by kernel_rfl) (by kernel_rfl) (by kernel_rfl) (fun _ _ _ h => h) (fun w' _ => run_op_neqDat s2.next K2.out.next _ _ _ rfl rfl rfl w') ⟨rD121, rC121, rT121, rP121, trivial⟩ ?_
                    simp only [Act.put, List.setIfInBounds_toArray, List.set_cons_zero, List.set_cons_succ]
                    refine h_take 29 (.bool false) rfl 154 rfl (by kernel_rfl) (by kernel_rfl) (by kernel_rfl) (by kernel_rfl) (fun _ _ _ h => h) (fun w' _ => by kernel_rfl) ⟨rD121, rC121, rT121, rP121, trivial⟩ ?_
                    simp only [Act.put, List.setIfInBounds_toArray, List.set_cons_zero, List.set_cons_succ]
                    refine h_take 30 (.bool false) rfl 155 rfl (by kernel_rfl) (by kernel_rfl) (by kernel_rfl) (by kernel_rfl) (fun _ _ _ h => h) (fun w' _ => by kernel_rfl) ⟨rD121, rC121, rT121, rP121, trivial⟩ ?_
                    simp only [Act.put, List.setIfInBounds_toArray, List.set_cons_zero, List.set_cons_succ]
                    refine h_take 31 (.pointer (some ⟨D, 99, none⟩)) rfl 156 rfl (by kernel_rfl) (by kernel_rfl) (by kernel_rfl) (by kernel_rfl) (fun _ _ _ h => h) (fun w' _ => by kernel_rfl) ⟨rD121, rC121, rT121, rP121, trivial⟩ ?_
                    simp only [Act.put, List.setIfInBounds_toArray, List.set_cons_zero, List.set_cons_succ]
                    refine h_take 32 (.pointer (some ⟨D, 99, none⟩)) rfl 157 rfl (by kernel_rfl) (by kernel_rfl) (by kernel_rfl) (by kernel_rfl) (fun _ _ _ h => h) (fun w' _ => by kernel_rfl) ⟨rD121, rC121, rT121, rP121, trivial⟩ ?_
                    simp only [Act.put, List.setIfInBounds_toArray, List.set_cons_zero, List.set_cons_succ]
                    refine h_take 33 (num32 s2.min) rfl 158 rfl (by kernel_rfl) (by kernel_rfl) (by kernel_rfl) (by kernel_rfl) (fun _ _ _ h => h) (fun w' hw => run_op_load1 _ _ rfl (.int .u32) (by kernel_rfl) rfl ⟨D, 99, none⟩ rfl (num32 s2.min) (hw.1.cell (show Has (scs s2) 99 [num32 s2.min] from Has.head (s_win K2.out)).get)) ⟨rD121, rC121, rT121, rP121, trivial⟩ ?_
                    simp only [Act.put, List.setIfInBounds_toArray, List.set_cons_zero, List.set_cons_succ]
                    refine h_take 34 (.slice p2 (xs.length + 1) cap2) rfl 159 rfl (by kernel_rfl) (by kernel_rfl) (by kernel_rfl) (by kernel_rfl) (fun _ _ _ h => h) (fun w' _ => by kernel_rfl) ⟨rD121, rC121, rT121, rP121, trivial⟩ ?_
                    simp only [Act.put, List.setIfInBounds_toArray, List.set_cons_zero, List.set_cons_succ]
                    refine h_one (i := 35) (by kernel_rfl) (o_call rfl 160 rfl (by kernel_rfl) (run_op_call 16 _ _ rfl #[.slice p2 (xs.length + 1) cap2] (by simp only [List.map_toArray, List.map_cons, List.map_nil]; rfl) Tryd.func16 (by kernel_rfl) (by kernel_rfl) _) (CWH.out y121 hO121.r32) ?_)
                    rintro e y122 ⟨rfl, hB⟩
                    have rV122 : Row y122 V 35 (scs s) := rV121.old hB
                    have rG122 : Row y122 G 23 (u8s (sdF s t dr)) := rG121.old hB
                    have rC122 : Row y122 C 31 (dcs (cB s t)) := rC121.old hB
                    have rT122 : Row y122 T 31 (dcs s2.next) := rT121.old hB
                    have rX122 : Row y122 X 23 (u8s x) := rX121.old hB
                    have rhl122 : Row y122 hl 23 (hcl2) := rhl121.old hB
                    have rP122 : Row y122 P 23 (u8s (digS s)) := rP121.old hB
                    have rD122 : Row y122 D 35 (scs s2) := rD121.old hB
                    have hO122 := hO121.old hB
                    have bel122 : Below w.heap.size w y122 := below_step bel121 bel121.size hB
                    have sz122 : base ≤ y122.heap.size := Nat.le_trans sz121 hB.size
                    clear hB rV121 rG121 rC121 rT121 rX121 rhl121 rP121 rD121 hO121 bel121 sz121
                    refine ⟨_, rfl, ⟨rD122, rC122, rT122, rP122, trivial⟩, ?_⟩
                    simp only [Act.put, List.setIfInBounds_toArray, List.set_cons_zero, List.set_cons_succ]
                    refine h_take 36 (.bool false) rfl 161 rfl (by kernel_rfl) (by kernel_rfl) (by kernel_rfl) (by kernel_rfl) (fun _ _ _ h => h) (fun w' _ => cmp_neq _ _ .u32 (by kernel_rfl) _ _ rfl .u32 (s2.min : Int) (s2.min : Int) rfl rfl false HM2.out w') ⟨rD122, rC122, rT122, rP122, trivial⟩ ?_
                    simp only [Act.put, List.setIfInBounds_toArray, List.set_cons_zero, List.set_cons_succ]
                    refine h_take 37 (.bool false) rfl 162 rfl (by kernel_rfl) (by kernel_rfl) (by kernel_rfl) (by kernel_rfl) (fun _ _ _ h => h) (fun w' _ => by kernel_rfl) ⟨rD122, rC122, rT122, rP122, trivial⟩ ?_
                    simp only [Act.put, List.setIfInBounds_toArray, List.set_cons_zero, List.set_cons_succ]
                    refine h_take 38 (.bool false) rfl 163 rfl (by kernel_rfl) (by kernel_rfl) (by kernel_rfl) (by kernel_rfl) (fun _ _ _ h => h) (fun w' _ => by kernel_rfl) ⟨rD122, rC122, rT122, rP122, trivial⟩ ?_
                    simp only [Act.put, List.setIfInBounds_toArray, List.set_cons_zero, List.set_cons_succ]
                    refine h_take 39 (.pointer (some ⟨D, 0, none⟩)) rfl 164 rfl (by kernel_rfl) (by kernel_rfl) (by kernel_rfl) (by kernel_rfl) (fun _ _ _ h => h) (fun w' _ => by kernel_rfl) ⟨rD122, rC122, rT122, rP122, trivial⟩ ?_
                    simp only [Act.put, List.setIfInBounds_toArray, List.set_cons_zero, List.set_cons_succ]
                    refine h_take 40 (.agg (u8s (digS s)).toArray) rfl 165 rfl (by kernel_rfl) (by kernel_rfl) (by kernel_rfl) (by kernel_rfl) (fun _ _ _ h => h) (fun w' hw => run_op_load _ _ rfl D 0 rfl (u8s (digS s)) ((show Has (scs s2) 0 (u8s (digS s)) from HPV.out).range hw.1) (szH KDG.out)) ⟨rD122, rC122, rT122, rP122, trivial⟩ ?_
                    simp only [Act.put, List.setIfInBounds_toArray, List.set_cons_zero, List.set_cons_succ]
                    refine h_take 41 (.agg (u8s (digS s)).toArray) rfl 166 rfl (by kernel_rfl) (by kernel_rfl) (by kernel_rfl) (by kernel_rfl) (fun _ _ _ h => h) (fun w' hw => run_op_load _ _ rfl P 0 rfl (u8s (digS s)) ((show Has (u8s (digS s)) 0 (u8s (digS s)) from Has.refl _).range hw.2.2.2.1) (szH KDG.out)) ⟨rD122, rC122, rT122, rP122, trivial⟩ ?_
                    simp only [Act.put, List.setIfInBounds_toArray, List.set_cons_zero, List.set_cons_succ]
                    refine h_take 42 (.bool false) rfl 167 rfl (by kernel_rfl) (by kernel_rfl) (by kernel_rfl) (by kernel_rfl) (fun _ _ _ h => h) (fun w' _ => run_op_neq _ _ _ rfl (digS s) KDG.out.len rfl rfl w') ⟨rD122, rC122, rT122, rP122, trivial⟩ ?_
                    simp only [Act.put, List.setIfInBounds_toArray, List.set_cons_zero, List.set_cons_succ]
                    refine h_take 43 (.bool false) rfl 168 rfl (by kernel_rfl) (by kernel_rfl) (by kernel_rfl) (by kernel_rfl) (fun _ _ _ h => h) (fun w' _ => by kernel_rfl) ⟨rD122, rC122, rT122, rP122, trivial⟩ ?_
                    simp only [Act.put, List.setIfInBounds_toArray, List.set_cons_zero, List.set_cons_succ]
                    refine wpAnyH_done (by kernel_rfl) ?_ _
                    clear rP122
                    go_wp2_with fail
                    have h1 : GiRel w base p2 cap2 (xs ++ [t]) (fun wx => Row wx V 35 (scs s) ∧ Row wx G 23 (u8s (sdF s t dr)) ∧ Row wx C 31 (dcs (cB s t)) ∧ Row wx T 31 (dcs s2.next) ∧ Row wx X 23 (u8s x) ∧ Row wx hl 23 (hcl2) ∧ Row wx D 35 (scs s2)) (.int .i64 0) y122 := ⟨⟨0, by omega, rfl⟩, hO122, ⟨rV122, rG122, rC122, rT122, rX122, rhl122, rD122⟩, bel122, sz122⟩
                    clear rV122 rG122 rC122 rT122 rX122 rhl122 rD122 bel122 sz122 hO122
                    go_loopw [23] (fun i wq => GiRel w base p2 cap2 (xs ++ [t]) (fun wx => Row wx V 35 (scs s) ∧ Row wx G 23 (u8s (sdF s t dr)) ∧ Row wx C 31 (dcs (cB s t)) ∧ Row wx T 31 (dcs s2.next) ∧ Row wx X 23 (u8s x) ∧ Row wx hl 23 (hcl2) ∧ Row wx D 35 (scs s2)) i wq) (fun i _ => 4 - (intOf i).toNat)
                    case atStart => exact h1
                    case round => as_aux_lemma =>
                      clear h1
                      obtain ⟨⟨b, hb4, rfl⟩, hOq, ⟨rVq, rGq, rCq, rTq, rXq, rhlq, rDq⟩, hbq, hzq⟩ := hrel
                      by_cases hbl : b < 4
                      · have ib : decide ((b : Int) < 4) = true := decide_eq_true (by omega)
                        obtain ⟨gg, hgg⟩ : ∃ gg : Int, gg = ((t / 3 : Nat) : Int) - (b : Int) := ⟨_, rfl⟩
                        have hgi : ((t / 3 : Nat) : Int) - (b : Int) = gg := hgg.symm
                        have hlt3 : s2.last = t / 3 := by have h1 := GN.out.hist.last; rw [lastX_snoc] at h1; exact h1
                        have hat := GN.out.hist.at_ gg (by rw [hlt3]; omega) (by rw [hlt3]; omega)
                        rw [atG_in (by rw [hlt3]; omega) (by rw [hlt3]; omega)] at hat
                        have htm := tmod4 gg
                        have hrr := tmod_bd gg
                        have hj : (gg % 4).toNat < 4 := by omega
                        have hjj : gg % 4 = (((gg % 4).toNat : Nat) : Int) := by omega
                        rw [hjj] at htm
                        generalize (gg % 4).toNat = j at hj hjj hat htm
                        have hish : isH (8 + j) = false := by
                          obtain rfl | rfl | rfl | rfl : j = 0 ∨ j = 1 ∨ j = 2 ∨ j = 3 := by omega
                          all_goals rfl
                        have hcj : Has (scs s2) (101 + j) [num32 (s2.counts.getD j 0)] := by
                          have h2 := s_num K2.out (i := 8 + j) (by omega) hish
                          obtain rfl | rfl | rfl | rfl : j = 0 ∨ j = 1 ∨ j = 2 ∨ j = 3 := by omega
                          all_goals exact h2
                        clear hish
                        rw [hat] at hcj
                        have cBj := rDq.cell hcj.get
                        simp only [num32] at cBj
                        have CCN := Lib.hid (counted10_any (xs ++ [t]) p2 cap2 gg)
                        rw [hx2] at CCN
                        have hgu : t / 3 < 1431655766 := by omega
                        have CS3 := Lib.hid (fun w0 => (CSU.out w0))
                        generalize cnt (xs ++ [t]) gg = c at cBj CCN hcj
                        have hne : ((c : Int) != (c : Int)) = false := by simp
                        have ij : (j : Int) < 4 := by omega
                        have hg1 : -4 < gg := by omega
                        have hg2 : gg < 4294967296 := by omega
                        generalize t / 3 = u at CS3 hgi hgu
                        clear hat hgg hjj hcj hlt3
                        go_wp2_with fail
                        refine (CS3.out _).mono ?_
                        rintro e4 z4 ⟨rfl, rfl⟩
                        go_wp2_with fail
                        go_quiet (first | (go_at_call 18; exact Calls.quiet_of_same ((CCN.out _ (hOq.old (below_drewN _ _ _)).r32 GN.out.hist.lt_ (by have := HXL.out; omega)).mono fun _ _ h => ⟨h.1, h.2.symm⟩)))
                        have rVn : Row (wr.drewN nq) V 35 (scs s) := rVq.drewN
                        have rGn : Row (wr.drewN nq) G 23 (u8s (sdF s t dr)) := rGq.drewN
                        have rCn : Row (wr.drewN nq) C 31 (dcs (cB s t)) := rCq.drewN
                        have rTn : Row (wr.drewN nq) T 31 (dcs s2.next) := rTq.drewN
                        have rXn : Row (wr.drewN nq) X 23 (u8s x) := rXq.drewN
                        have rhln : Row (wr.drewN nq) hl 23 (hcl2) := rhlq.drewN
                        have rDn : Row (wr.drewN nq) D 35 (scs s2) := rDq.drewN
                        have hOn := hOq.old (below_drewN wr.heap.size wr nq)
                        have hbn := hbq.trans (below_drewN w.heap.size wr nq)
                        have hzn : base ≤ (wr.drewN nq).heap.size := hzq
                        generalize wr.drewN nq = wq at hOn rVn rGn rCn rTn rXn rhln rDn hbn hzn ⊢
                        clear hOq hbq hzq cBj CCN hne rVq rGq rCq rTq rXq rhlq rDq
                        go_wp2_with fail
                        go_roundw
                        case rel => exact ⟨⟨b + 1, by omega, by go_num⟩, hOn, ⟨rVn, rGn, rCn, rTn, rXn, rhln, rDn⟩, hbn, hzn⟩
                        case measure => simp [intOf]; omega
                      · obtain rfl : b = 4 := by omega
                        have ib : decide (((4 : Nat) : Int) < 4) = false := by decide
                        obtain ⟨ga, gca, hp2, hga, rAq, FS2⟩ := O32.as_row hOq (by rw [hx2]; omega)
                        subst hp2
                        have HFS2 := Lib.hid FS2
                        have CH2 := Lib.hid (fun w0 h => shash_any s2 w0 K2.out h)
                        have KD2 := Lib.hid (digS_ok s2)
                        clear hOq FS2
                        have ngaV : ga ≠ V := row_ne rAq rVq (by decide)
                        have ngaD : ga ≠ D := row_ne rAq rDq (by decide)
                        have ngahl : ga ≠ hl := row_ne rAq rhlq (by decide)
                        have ngaC : ga ≠ C := row_ne rAq rCq (by decide)
                        have ngaT : ga ≠ T := row_ne rAq rTq (by decide)
                        have ngaG : ga ≠ G := row_ne rAq rGq (by decide)
                        have ngaX : ga ≠ X := row_ne rAq rXq (by decide)
                        go_wp2_with (first
                          | ((with_reducible refine at_slot 191 ?_); (refine arm_load (o := ⟨some 191, _, _, _, _, _⟩) rfl _ _ rfl D 0 rfl (scs s2) ((show Has (scs s2) 0 (scs s2) from Has.refl _).range (rDq)) (sz_sta K2.out) ?_))
                          | ((with_reducible refine arm_store (o := ⟨none, _, _, _, _, _⟩) rfl _ _ _ rfl V 0 rfl (scs s2) rfl _ _ (rVq) (by rw [scs_len K2.out, scs_len KS.out]; omega) (scs_one _) (sz_sta K2.out) ?_); intro v401 hv401 ov401 sv401)
                          | ((with_reducible refine at_slot 193 ?_); (refine arm_load (o := ⟨some 193, _, _, _, _, _⟩) rfl _ _ rfl V 0 rfl (scs s2) ((show Has (scs s2) 0 (scs s2) from Has.refl _).range ((hv401.congr (lay_all _ _ (by rw [scs_len K2.out, scs_len KS.out]))))) (sz_sta K2.out) ?_)))
                        have q0 := sv401.out
                        have q1 := rVq.lt
                        have q2 := rGq.lt
                        have q3 := rCq.lt
                        have q4 := rTq.lt
                        have q5 := rXq.lt
                        have q6 := rhlq.lt
                        have q7 := rDq.lt
                        have q8 := rAq.lt
                        have q9 := hbq.size
                        have rV402 : Row v401 V 35 (scs s2) := (hv401.congr (lay_all _ _ (by rw [scs_len K2.out, scs_len KS.out])))
                        have rG402 : Row v401 G 23 (u8s (sdF s t dr)) := (rGq.only ov401 nGV)
                        have rC402 : Row v401 C 31 (dcs (cB s t)) := (rCq.only ov401 nCV)
                        have rT402 : Row v401 T 31 (dcs s2.next) := (rTq.only ov401 nTV)
                        have rX402 : Row v401 X 23 (u8s x) := (rXq.only ov401 nXV)
                        have rhl402 : Row v401 hl 23 (hcl2) := (rhlq.only ov401 nhlV)
                        have rD402 : Row v401 D 35 (scs s2) := (rDq.only ov401 nDV)
                        have rga402 : Row v401 ga 24 (gca) := (rAq.only ov401 ngaV)
                        have bel402 : Below w.heap.size w v401 := (below_only hbq ov401 lV (by omega))
                        have sz402 : base ≤ v401.heap.size := by omega
                        clear q0 q1 q2 q3 q4 q5 q6 q7 q8 q9 rVq rGq rCq rTq rXq rhlq rDq rAq hbq hzq hv401 ov401 sv401
                        refine (CH2.out _ (HKW.out _ bel402)).mono ?_
                        rintro e y403 ⟨rfl, hB⟩
                        have rV403 : Row y403 V 35 (scs s2) := rV402.old hB
                        have rG403 : Row y403 G 23 (u8s (sdF s t dr)) := rG402.old hB
                        have rC403 : Row y403 C 31 (dcs (cB s t)) := rC402.old hB
                        have rT403 : Row y403 T 31 (dcs s2.next) := rT402.old hB
                        have rX403 : Row y403 X 23 (u8s x) := rX402.old hB
                        have rhl403 : Row y403 hl 23 (hcl2) := rhl402.old hB
                        have rD403 : Row y403 D 35 (scs s2) := rD402.old hB
                        have rga403 : Row y403 ga 24 (gca) := rga402.old hB
                        have bel403 : Below w.heap.size w y403 := below_step bel402 bel402.size hB
                        have sz403 : base ≤ y403.heap.size := Nat.le_trans sz402 hB.size
                        clear hB rV402 rG402 rC402 rT402 rX402 rhl402 rD402 rga402 bel402 sz402
                        clear rD403
                        go_wp2_with (first
                          | ((with_reducible refine at_slot 195 ?_); (refine arm_oneH (o := ⟨some 195, _, _, _, _, _⟩) rfl _ rfl (digS s2) KD2.out (by simp only [List.map_toArray, List.map_cons, List.map_nil]; rfl) ?_); intro Q v404 Qe hv404 nv404)
                          | ((with_reducible refine at_slot 196 ?_); (refine arm_appendH (o := ⟨some 196, _, _, _, _, _⟩) rfl _ _ rfl base (some ⟨hl, 0, none⟩) hs.length ch hs rfl rfl (HFH.out _ (rhl403.old nv404.below)) Q (digS s2) KD2.out rfl hv404 (by have := HXL.out; have := HHL.out; omega) (by have := sz403; have := Qe.out; have := nv404.size; omega) ?_); intro p3 cap3 w3 hO3 hB3 hK3 hA3))
                        have q0 := Qe.out
                        have q1 := nv404.size
                        have q2 := rV403.lt
                        have q3 := rG403.lt
                        have q4 := rC403.lt
                        have q5 := rT403.lt
                        have q6 := rX403.lt
                        have q7 := rhl403.lt
                        have q8 := rga403.lt
                        have q9 := bel403.size
                        have lQ : w.heap.size ≤ Q := by omega
                        have nVQ : V ≠ Q := by omega
                        have nQV : Q ≠ V := by omega
                        have nGQ : G ≠ Q := by omega
                        have nQG : Q ≠ G := by omega
                        have nCQ : C ≠ Q := by omega
                        have nQC : Q ≠ C := by omega
                        have nTQ : T ≠ Q := by omega
                        have nQT : Q ≠ T := by omega
                        have nXQ : X ≠ Q := by omega
                        have nQX : Q ≠ X := by omega
                        have nhlQ : hl ≠ Q := by omega
                        have nQhl : Q ≠ hl := by omega
                        have ngaQ : ga ≠ Q := by omega
                        have nQga : Q ≠ ga := by omega
                        have rV405 : Row v404 V 35 (scs s2) := (rV403.old nv404.below)
                        have rG405 : Row v404 G 23 (u8s (sdF s t dr)) := (rG403.old nv404.below)
                        have rC405 : Row v404 C 31 (dcs (cB s t)) := (rC403.old nv404.below)
                        have rT405 : Row v404 T 31 (dcs s2.next) := (rT403.old nv404.below)
                        have rX405 : Row v404 X 23 (u8s x) := (rX403.old nv404.below)
                        have rhl405 : Row v404 hl 23 (hcl2) := (rhl403.old nv404.below)
                        have rga405 : Row v404 ga 24 (gca) := (rga403.old nv404.below)
                        have rQ405 : Row v404 Q 23 (u8s (digS s2)) := hv404
                        have bel405 : Below w.heap.size w v404 := (below_step bel403 (by omega) nv404.below)
                        have sz405 : base ≤ v404.heap.size := by omega
                        clear q0 q1 q2 q3 q4 q5 q6 q7 q8 q9 rV403 rG403 rC403 rT403 rX403 rhl403 rga403 bel403 sz403 Qe hv404 nv404
                        have nhlX : hl ≠ X := by omega
                        have hGw : G < v404.heap.size := rG405.lt
                        clear rhl405
                        clear rQ405
                        have rV406 : Row w3 V 35 (scs s2) := hK3.out _ _ _ (fun h => nhlV (Option.some.inj h)) rV405
                        have rG406 : Row w3 G 23 (u8s (sdF s t dr)) := hK3.out _ _ _ (fun h => nhlG (Option.some.inj h)) rG405
                        have rC406 : Row w3 C 31 (dcs (cB s t)) := hK3.out _ _ _ (fun h => nhlC (Option.some.inj h)) rC405
                        have rT406 : Row w3 T 31 (dcs s2.next) := hK3.out _ _ _ (fun h => nhlT (Option.some.inj h)) rT405
                        have rX406 : Row w3 X 23 (u8s x) := hK3.out _ _ _ (fun h => nhlX (Option.some.inj h)) rX405
                        have rga406 : Row w3 ga 24 (gca) := hK3.out _ _ _ (fun h => ngahl (Option.some.inj h).symm) rga405
                        have bel406 : Below w.heap.size w w3 := bel405.trans (hB3.mono lb)
                        have sz406 : base ≤ w3.heap.size := Nat.le_trans sz405 hB3.size
                        clear rV405 rG405 rC405 rT405 rX405 rga405 bel405 sz405 hB3 hK3
                        have hG3 : blk p3 ≠ some G := by
                          rcases hA3.out with h | h
                          · rw [h]; exact fun h => nhlG (Option.some.inj h)
                          · rw [h]; exact fun h => by have := Option.some.inj h; omega
                        have HSE : Hid (u8s (sdF s t dr) = u8s s2.next.seed) := Lib.hid (by rw [ENX.out])
                        have HCW : Hid (dcs (cB s t) = dcs s2.now) := Lib.hid (by rw [ENW.out])
                        go_roundw
                        case rel => exact ⟨⟨k + 1, s2, xs ++ [t], hs ++ [digS s2], some ⟨ga, 0, none⟩, p3, cap2, cap3, by omega, by go_num, by rw [hx2], by simp, by rw [ECT.out], HFS2.out _ rga406, hO3, hG3, rV406, rG406.congr HSE.out, rC406.congr HCW.out, rT406, rX406, GN.out, K2.out, by rw [List.length_append, List.length_append, HHL.out]; rfl, by rw [hx2, Nat.add_sub_cancel, ← HHL.out, List.getElem?_append_right (Nat.le_refl _), Nat.sub_self]; rfl, by have := HXK.out; omega⟩, bel406, sz406⟩
                        case measure => simp [intOf]; omega
          · refine (later_over z y _ hlb hyb (by omega)).mono ?_
            rintro e w6 ⟨rfl, rfl⟩
            go_wp2_with fail
            go_roundw
            case rel => exact ⟨⟨k + 1, s, xs, hs, some ⟨gl, 0, none⟩, some ⟨hl, 0, none⟩, cs, ch, by omega, by go_num, rfl, rfl, rfl, HFS.out _ rA, HFH.out _ rE, fun h => nEG (Option.some.inj h), rV, rG, rC, rT, rX, GHH.out, KS.out, HHL.out, HLAST.out, by omega⟩, bel, sz0⟩
            case measure => simp [intOf]; omega
        · obtain rfl : k = st.length := by omega
          go_wp2_with fail
          go_ret
          exact ⟨rfl, bel⟩
end Go.Proofs.YtmohlcmhogbkjaaDoor.Gr
