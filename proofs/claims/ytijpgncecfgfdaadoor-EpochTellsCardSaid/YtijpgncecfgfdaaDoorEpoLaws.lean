/-
  EpochTells, as a contract (promises P8.1, P8.2): for any pair, block and ledger the law returns true. Over this seat's translation.
-/
import Derived.Test.YtijpgncecfgfdaaDoorEpoAwake
import Derived.Deep.DeepCutAuto
namespace Go.Proofs.YtijpgncecfgfdaaDoor.Ep
open Go.ChangeShapes Go.WideShapes Go.ChangeAt Go.RowKit Go.Proofs.YtijpgncecfgfdaaDoor.Mem Go.Proofs.YtijpgncecfgfdaaDoor.Bt Go.Proofs.YtijpgncecfgfdaaDoor.Sha Go.Proofs.YtijpgncecfgfdaaDoor.Tg
set_option linter.unusedVariables false
set_option linter.unusedSimpArgs false

set_option maxHeartbeats 4000000 in
set_option maxRecDepth 100000 in
theorem epochTells_any (cc dd : Dat) (b : Blk) (lg : List Nat) (w : World) (l : cc.Ok) (k : dd.Ok) (j : b.Ok) (kl : H32 lg) (hk : w.rangeAt 1 0 (u32s ks)) (hk2 : w.rangeAt 0 0 (u32s ks)) :
    Calls Tryd.prog 3 #[.agg (pcs cc dd).toArray, .agg (bcs b).toArray, .agg (u8s lg).toArray] w fun e w' => e = .returned (.bool true) ∧ Below w.heap.size w w' := by
  have hk1 : 1 < w.heap.size := range_lt hk (by simp [u32s, ks])
  have hk3 : 0 < w.heap.size := range_lt hk2 (by simp [u32s, ks])
  have HKW : Hid (∀ w', Below w.heap.size w w' → w'.rangeAt 1 0 (u32s ks)) := Lib.hid fun w' hb => range_block hk (hb.block _ hk1)
  have HKR : Hid (∀ w', Below w.heap.size w w' → w'.rangeAt 0 0 (u32s ks)) := Lib.hid fun w' hb => range_block hk2 (hb.block _ hk3)
  clear hk hk2
  have K := Lib.hid k; have KC := Lib.hid l; have J := Lib.hid j; have KL := Lib.hid kl
  obtain ⟨ac, hac⟩ : ∃ ac, ac = ansC cc dd b := ⟨_, rfl⟩
  obtain ⟨an, han⟩ : ∃ an, an = ansN dd b := ⟨_, rfl⟩
  obtain ⟨ae, hae⟩ : ∃ ae, ae = ansE dd b := ⟨_, rfl⟩
  have KA := Lib.hid (show ac.Ok by rw [hac]; exact ansC_ok l k)
  have KN := Lib.hid (show an.Ok by rw [han]; exact ansN_ok k j)
  have CF : Hid (∀ w0, w0.rangeAt 1 0 (u32s ks) → Calls Tryd.prog 8 #[.agg (pcs cc dd).toArray, .agg (bcs b).toArray] w0 fun e w' => e = .returned (.tuple #[.agg (pcs ac an).toArray, .int .i64 ae]) ∧ Below w0.heap.size w0 w') := Lib.hid fun w0 h => by rw [hac, han, hae]; exact follow_any cc dd b w0 l k j h
  have CR : Hid (∀ w0, w0.rangeAt 0 0 (u32s ks) → Calls Tryd.prog 9 #[.agg (pcs cc dd).toArray, .agg (bcs b).toArray] w0 fun e w' => e = .returned (.tuple #[.agg (pcs ac an).toArray, .int .i64 ae]) ∧ Below w0.heap.size w0 w') := Lib.hid fun w0 h => by rw [hac, han, hae]; exact rfollow_any cc dd b w0 l k j h
  clear l k j kl hac han hae
  obtain ⟨g, hg⟩ : ∃ g : Dat, g = ⟨lg, zh, zh, zh, 1⟩ := ⟨_, rfl⟩
  have KG := Lib.hid (show g.Ok by rw [hg]; exact ⟨KL.out, zh_ok, zh_ok, zh_ok, (by decide : 1 < 4294967296)⟩)
  have C1 := Lib.hid (fun w0 => first_any lg w0 KL.out)
  have C2 := Lib.hid (fun w0 => rfirst_any lg w0 KL.out)
  rw [← hg] at C1 C2
  clear hg
  go_enter Tryd.func3, Tryd.ntmps3
  go_wp2_with (first
    | ((with_reducible refine at_slot 3 ?_); (refine arm_box (o := ⟨some 3, _, _, _, _, _⟩) rfl _ _ rfl (pcs cc dd) rfl ?_); intro A w1 Ae hw1 nw1)
    | ((with_reducible refine at_slot 4 ?_); (refine arm_box (o := ⟨some 4, _, _, _, _, _⟩) rfl _ _ rfl (bcs b) rfl ?_); intro B w2 Be hw2 nw2)
    | ((with_reducible refine at_slot 5 ?_); (refine arm_box (o := ⟨some 5, _, _, _, _, _⟩) rfl _ _ rfl (u8s lg) rfl ?_); intro C w3 Ce hw3 nw3))
  have e1 := Ae.out; have e2 := Be.out; have e3 := Ce.out; have s1 := nw1.size; have s2 := nw2.size; have s3 := nw3.size
  have rA3 := (hw1.old nw2.below).old nw3.below; have rB3 := hw2.old nw3.below; have rC3 := hw3
  have bel3 : Below w.heap.size w w3 := below_step (below_step nw1.below (by omega) nw2.below) (by omega) nw3.below
  have hAB : A ≠ B := by omega
  have hAC : A ≠ C := by omega
  have hBC : B ≠ C := by omega
  have lB : w.heap.size ≤ B := by omega
  clear e1 e2 e3 s1 s2 s3 Ae Be Ce hw1 nw1 hw2 nw2 hw3 nw3
  refine (awake_any _ (HKW.out _ bel3) (HKR.out _ bel3)).mono ?_
  rintro e w4 ⟨rfl, hB⟩
  have rA4 := rA3.old hB; have rB4 := rB3.old hB; have rC4 := rC3.old hB
  have bel4 : Below w.heap.size w w4 := below_step bel3 bel3.size hB
  clear hB rA3 rB3 rC3 bel3
  go_wp2_with (first
    | ((with_reducible refine at_slot 14 ?_); (refine arm_load (o := ⟨some 14, _, _, _, _, _⟩) rfl _ _ rfl A 0 rfl (pcs cc dd) ((Has.refl _).range rA4) (sz_pair KC.out K.out) ?_))
    | ((with_reducible refine at_slot 15 ?_); (refine arm_load (o := ⟨some 15, _, _, _, _, _⟩) rfl _ _ rfl B 0 rfl (bcs b) ((Has.refl _).range rB4) (sz_blk J.out) ?_)))
  refine (CF.out _ (HKW.out _ bel4)).mono ?_
  rintro e w5 ⟨rfl, hB⟩
  have rA5 := rA4.old hB; have rB5 := rB4.old hB; have rC5 := rC4.old hB
  have bel5 : Below w.heap.size w w5 := below_step bel4 bel4.size hB
  have qA := rA5.lt; have qB := rB5.lt; have qC := rC5.lt
  clear hB rA4 rB4 rC4 bel4 CF
  go_wp2_with (first
    | ((with_reducible refine at_slot 7 ?_); (refine arm_alloc (o := ⟨some 7, _, _, _, _, _⟩) rfl _ rfl (pcs zd zd) z_pair ?_); intro F w6 Fe hw6 nw6)
    | ((with_reducible refine arm_store (o := ⟨none, _, _, _, _, _⟩) rfl _ _ _ rfl F 0 rfl (pcs ac an) rfl _ _ (hw6) (fitP KA.out KN.out) (pcs_one _ _) (sz_pair KA.out KN.out) ?_); intro w7 hw7 ow7 sw7))
  have e1 := Fe.out; have s1 := nw6.size; have s2 := sw7.out; have s3 := bel5.size
  have hAF : A ≠ F := by omega
  have hBF : B ≠ F := by omega
  have hCF : C ≠ F := by omega
  have lF : w.heap.size ≤ F := by omega
  have rA7 := (rA5.old nw6.below).only ow7 hAF; have rB7 := (rB5.old nw6.below).only ow7 hBF; have rC7 := (rC5.old nw6.below).only ow7 hCF
  have rF7 := hw7.congr (allP KA.out KN.out)
  have bel7 : Below w.heap.size w w7 := below_only (below_step bel5 bel5.size nw6.below) ow7 lF (by omega)
  clear e1 s1 s2 s3 qA qB qC Fe hw6 nw6 hw7 ow7 sw7 rA5 rB5 rC5 bel5
  go_cut [9, 10] (fun nn ee wx => ∃ N : Nat, nn = .pointer (some ⟨N, 0, none⟩) ∧ ee = .int .i64 ae ∧ Row wx N 37 (pcs ac an) ∧ Below w7.heap.size w7 wx ∧ w7.heap.size ≤ N)
  case first =>
    obtain ⟨Z, hZ⟩ : ∃ Z, Z = w7.heap.size := ⟨_, rfl⟩
    refine wp_region_held (S := fun w' => Below Z w7.drew w') (by kernel_rfl) ?_
    change wpAnyH _ _ _ _ _ _ _ _ w7.drew
    have rAz : Row w7.drew A 28 (pcs cc dd) := rA7
    have rBz : Row w7.drew B 30 (bcs b) := rB7
    have kz : w7.drew.rangeAt 0 0 (u32s ks) := HKR.out _ bel7.drew
    have belz : Below w7.heap.size w7 w7.drew := (Below.refl _ _).drew
    have hS : Below Z w7.drew w7.drew := Below.refl _ _
    have ez : w7.drew.heap.size = w7.heap.size := rfl
    have ZL : Hid (Z ≤ w7.drew.heap.size) := Lib.hid (by omega)
    have ZE : Hid (w7.drew.heap.size = Z) := Lib.hid (by omega)
    have ZW := Lib.hid hZ
    generalize w7.drew = wz at rAz rBz kz belz hS ZL ZE ⊢
    clear hZ ez
    refine h_take 0 (.agg (pcs cc dd).toArray) rfl 20 rfl (by kernel_rfl) (by kernel_rfl) (by kernel_rfl) (by kernel_rfl) (fun _ _ _ h => h) (fun w' hC => run_op_load _ _ rfl A 0 rfl (pcs cc dd) ((Has.refl _).range (rAz.below hC (ZW.out ▸ rA7.lt))) (sz_pair KC.out K.out)) hS ?_
    simp only [Act.put, List.setIfInBounds_toArray, List.set_cons_zero, List.set_cons_succ]
    refine h_take 2 (.agg (bcs b).toArray) rfl 22 rfl (by kernel_rfl) (by kernel_rfl) (by kernel_rfl) (by kernel_rfl) (fun _ _ _ h => h) (fun w' hC => run_op_load _ _ rfl B 0 rfl (bcs b) ((Has.refl _).range (rBz.below hC (ZW.out ▸ rB7.lt))) (sz_blk J.out)) hS ?_
    simp only [Act.put, List.setIfInBounds_toArray, List.set_cons_zero, List.set_cons_succ]
    refine h_two (i := 1) (j := 7) (by kernel_rfl) ?_ ?_
    · skip
      refine (o_call rfl 21 rfl (by kernel_rfl) (run_op_call 10 _ _ rfl #[.agg (pcs cc dd).toArray] (by simp only [List.map_toArray, List.map_cons, List.map_nil]; rfl) Tryd.func10 (by kernel_rfl) (by kernel_rfl) _) (own_any cc dd _ KC.out K.out) ?_)
      rintro e y0 ⟨rfl, hB⟩
      have hS0 : Below Z wz y0 := below_step hS (Nat.le_trans ZL.out hS.size) hB
      refine ⟨_, rfl, hS0, ?_⟩
      clear hB
      simp only [Act.put, List.setIfInBounds_toArray, List.set_cons_zero, List.set_cons_succ]
      refine h_two (i := 3) (j := 7) (by kernel_rfl) ?_ ?_
      · skip
        refine (o_call rfl 23 rfl (by kernel_rfl) (run_op_call 9 _ _ rfl #[.agg (pcs cc dd).toArray, .agg (bcs b).toArray] (by simp only [List.map_toArray, List.map_cons, List.map_nil]; rfl) Tryd.func9 (by kernel_rfl) (by kernel_rfl) _) (CR.out _ (range_block kz (hS0.block _ (by have := ZW.out; have := bel7.size; omega)))) ?_)
        rintro e y1 ⟨rfl, hB⟩
        have hS1 : Below Z wz y1 := below_step hS0 (Nat.le_trans ZL.out hS0.size) hB
        refine ⟨_, rfl, hS1, ?_⟩
        clear hB
        simp only [Act.put, List.setIfInBounds_toArray, List.set_cons_zero, List.set_cons_succ]
        refine h_take 4 (.tuple #[.agg (pcs ac an).toArray, .int .i64 ae]) rfl 19 rfl (by kernel_rfl) (by kernel_rfl) (by kernel_rfl) (by kernel_rfl) (fun _ _ _ h => h) (fun w' _ => by kernel_rfl) hS1 ?_
        simp only [Act.put, List.setIfInBounds_toArray, List.set_cons_zero, List.set_cons_succ]
        refine h_take 5 (.agg (pcs ac an).toArray) rfl 24 rfl (by kernel_rfl) (by kernel_rfl) (by kernel_rfl) (by kernel_rfl) (fun _ _ _ h => h) (fun w' _ => by kernel_rfl) hS1 ?_
        simp only [Act.put, List.setIfInBounds_toArray, List.set_cons_zero, List.set_cons_succ]
        refine h_take 6 (.int .i64 ae) rfl 25 rfl (by kernel_rfl) (by kernel_rfl) (by kernel_rfl) (by kernel_rfl) (fun _ _ _ h => h) (fun w' _ => by kernel_rfl) hS1 ?_
        simp only [Act.put, List.setIfInBounds_toArray, List.set_cons_zero, List.set_cons_succ]
        refine h_one (i := 7) (by kernel_rfl) (o_value _ rfl 9 rfl (by kernel_rfl) (run_op_alloc _ rfl (pcs zd zd) z_rpair) ?_)
        have hN := new_alloc y1 (.cells (pcs zd zd).toArray 37)
        have rN2 : Row (y1.alloc (.cells (pcs zd zd).toArray 37)) y1.heap.size 37 (pcs zd zd) := heap_alloc_new _ _
        have lN : Z ≤ y1.heap.size := Nat.le_trans ZL.out hS1.size
        generalize y1.alloc (.cells (pcs zd zd).toArray 37) = y2 at hN rN2 ⊢
        have hS2 : Below Z wz y2 := below_step hS1 (Nat.le_trans ZL.out hS1.size) hN.below
        clear hN
        refine ⟨hS2, ?_⟩
        generalize y1.heap.size = N at rN2 lN ⊢
        simp only [Act.put, List.setIfInBounds_toArray, List.set_cons_zero, List.set_cons_succ]
        refine h_one (i := 8) (by kernel_rfl) (o_skip rfl rfl (by kernel_rfl) (run_op_store _ _ _ rfl N 0 rfl (pcs ac an) rfl _ _ rN2 (fitP KA.out KN.out) (pcs_one _ _) (sz_rpair KA.out KN.out)) ?_)
        have rNf := row_setRow rN2 (lay (pcs zd zd) 0 (pcs ac an))
        have oNf := Only.setRow N y2 (lay (pcs zd zd) 0 (pcs ac an)).toArray
        generalize y2.setRow N (lay (pcs zd zd) 0 (pcs ac an)).toArray = yf at rNf oNf ⊢
        have hSf : Below Z wz yf := below_only hS2 oNf lN (Nat.le_trans ZL.out hS2.size)
        refine ⟨hSf, ?_⟩
        refine h_take 9 (.int .i64 ae) rfl 10 rfl (by kernel_rfl) (by kernel_rfl) (by kernel_rfl) (by kernel_rfl) (fun _ _ _ h => h) (fun w' _ => by kernel_rfl) hSf ?_
        simp only [Act.put, List.setIfInBounds_toArray, List.set_cons_zero, List.set_cons_succ]
        refine wpAnyH_done (by kernel_rfl) ?_ _
        go_wp2_with fail
        go_meet
        exact ⟨N, rfl, rfl, rNf.congr (allP KA.out KN.out), belz.trans (ZW.out ▸ hSf), ZW.out ▸ lN⟩
      · skip
        refine (o_value _ rfl 9 rfl (by kernel_rfl) (run_op_alloc _ rfl (pcs zd zd) z_rpair) ?_)
        have hN := new_alloc y0 (.cells (pcs zd zd).toArray 37)
        have rN1 : Row (y0.alloc (.cells (pcs zd zd).toArray 37)) y0.heap.size 37 (pcs zd zd) := heap_alloc_new _ _
        have lN : Z ≤ y0.heap.size := Nat.le_trans ZL.out hS0.size
        generalize y0.alloc (.cells (pcs zd zd).toArray 37) = y1 at hN rN1 ⊢
        have hS1 : Below Z wz y1 := below_step hS0 (Nat.le_trans ZL.out hS0.size) hN.below
        clear hN
        refine ⟨hS1, ?_⟩
        generalize y0.heap.size = N at rN1 lN ⊢
        simp only [Act.put, List.setIfInBounds_toArray, List.set_cons_zero, List.set_cons_succ]
        refine h_one (i := 3) (by kernel_rfl) (o_call rfl 23 rfl (by kernel_rfl) (run_op_call 9 _ _ rfl #[.agg (pcs cc dd).toArray, .agg (bcs b).toArray] (by simp only [List.map_toArray, List.map_cons, List.map_nil]; rfl) Tryd.func9 (by kernel_rfl) (by kernel_rfl) _) (CR.out _ (range_block kz (hS1.block _ (by have := ZW.out; have := bel7.size; omega)))) ?_)
        rintro e y2 ⟨rfl, hB⟩
        have hS2 : Below Z wz y2 := below_step hS1 (Nat.le_trans ZL.out hS1.size) hB
        refine ⟨_, rfl, hS2, ?_⟩
        have rN2 := rN1.old hB
        clear hB
        simp only [Act.put, List.setIfInBounds_toArray, List.set_cons_zero, List.set_cons_succ]
        refine h_take 4 (.tuple #[.agg (pcs ac an).toArray, .int .i64 ae]) rfl 19 rfl (by kernel_rfl) (by kernel_rfl) (by kernel_rfl) (by kernel_rfl) (fun _ _ _ h => h) (fun w' _ => by kernel_rfl) hS2 ?_
        simp only [Act.put, List.setIfInBounds_toArray, List.set_cons_zero, List.set_cons_succ]
        refine h_take 5 (.agg (pcs ac an).toArray) rfl 24 rfl (by kernel_rfl) (by kernel_rfl) (by kernel_rfl) (by kernel_rfl) (fun _ _ _ h => h) (fun w' _ => by kernel_rfl) hS2 ?_
        simp only [Act.put, List.setIfInBounds_toArray, List.set_cons_zero, List.set_cons_succ]
        refine h_take 6 (.int .i64 ae) rfl 25 rfl (by kernel_rfl) (by kernel_rfl) (by kernel_rfl) (by kernel_rfl) (fun _ _ _ h => h) (fun w' _ => by kernel_rfl) hS2 ?_
        simp only [Act.put, List.setIfInBounds_toArray, List.set_cons_zero, List.set_cons_succ]
        refine h_one (i := 8) (by kernel_rfl) (o_skip rfl rfl (by kernel_rfl) (run_op_store _ _ _ rfl N 0 rfl (pcs ac an) rfl _ _ rN2 (fitP KA.out KN.out) (pcs_one _ _) (sz_rpair KA.out KN.out)) ?_)
        have rNf := row_setRow rN2 (lay (pcs zd zd) 0 (pcs ac an))
        have oNf := Only.setRow N y2 (lay (pcs zd zd) 0 (pcs ac an)).toArray
        generalize y2.setRow N (lay (pcs zd zd) 0 (pcs ac an)).toArray = yf at rNf oNf ⊢
        have hSf : Below Z wz yf := below_only hS2 oNf lN (Nat.le_trans ZL.out hS2.size)
        refine ⟨hSf, ?_⟩
        refine h_take 9 (.int .i64 ae) rfl 10 rfl (by kernel_rfl) (by kernel_rfl) (by kernel_rfl) (by kernel_rfl) (fun _ _ _ h => h) (fun w' _ => by kernel_rfl) hSf ?_
        simp only [Act.put, List.setIfInBounds_toArray, List.set_cons_zero, List.set_cons_succ]
        refine wpAnyH_done (by kernel_rfl) ?_ _
        go_wp2_with fail
        go_meet
        exact ⟨N, rfl, rfl, rNf.congr (allP KA.out KN.out), belz.trans (ZW.out ▸ hSf), ZW.out ▸ lN⟩
    · skip
      refine (o_value _ rfl 9 rfl (by kernel_rfl) (run_op_alloc _ rfl (pcs zd zd) z_rpair) ?_)
      have hN := new_alloc wz (.cells (pcs zd zd).toArray 37)
      have rN1 : Row (wz.alloc (.cells (pcs zd zd).toArray 37)) wz.heap.size 37 (pcs zd zd) := heap_alloc_new _ _
      have lN : Z ≤ wz.heap.size := Nat.le_trans ZL.out hS.size
      generalize wz.alloc (.cells (pcs zd zd).toArray 37) = y1 at hN rN1 ⊢
      have hS1 : Below Z wz y1 := below_step hS (Nat.le_trans ZL.out hS.size) hN.below
      clear hN
      refine ⟨hS1, ?_⟩
      generalize wz.heap.size = N at rN1 lN ⊢
      simp only [Act.put, List.setIfInBounds_toArray, List.set_cons_zero, List.set_cons_succ]
      refine h_one (i := 1) (by kernel_rfl) (o_call rfl 21 rfl (by kernel_rfl) (run_op_call 10 _ _ rfl #[.agg (pcs cc dd).toArray] (by simp only [List.map_toArray, List.map_cons, List.map_nil]; rfl) Tryd.func10 (by kernel_rfl) (by kernel_rfl) _) (own_any cc dd _ KC.out K.out) ?_)
      rintro e y2 ⟨rfl, hB⟩
      have hS2 : Below Z wz y2 := below_step hS1 (Nat.le_trans ZL.out hS1.size) hB
      refine ⟨_, rfl, hS2, ?_⟩
      have rN2 := rN1.old hB
      clear hB
      simp only [Act.put, List.setIfInBounds_toArray, List.set_cons_zero, List.set_cons_succ]
      refine h_one (i := 3) (by kernel_rfl) (o_call rfl 23 rfl (by kernel_rfl) (run_op_call 9 _ _ rfl #[.agg (pcs cc dd).toArray, .agg (bcs b).toArray] (by simp only [List.map_toArray, List.map_cons, List.map_nil]; rfl) Tryd.func9 (by kernel_rfl) (by kernel_rfl) _) (CR.out _ (range_block kz (hS2.block _ (by have := ZW.out; have := bel7.size; omega)))) ?_)
      rintro e y3 ⟨rfl, hB⟩
      have hS3 : Below Z wz y3 := below_step hS2 (Nat.le_trans ZL.out hS2.size) hB
      refine ⟨_, rfl, hS3, ?_⟩
      have rN3 := rN2.old hB
      clear hB
      simp only [Act.put, List.setIfInBounds_toArray, List.set_cons_zero, List.set_cons_succ]
      refine h_take 4 (.tuple #[.agg (pcs ac an).toArray, .int .i64 ae]) rfl 19 rfl (by kernel_rfl) (by kernel_rfl) (by kernel_rfl) (by kernel_rfl) (fun _ _ _ h => h) (fun w' _ => by kernel_rfl) hS3 ?_
      simp only [Act.put, List.setIfInBounds_toArray, List.set_cons_zero, List.set_cons_succ]
      refine h_take 5 (.agg (pcs ac an).toArray) rfl 24 rfl (by kernel_rfl) (by kernel_rfl) (by kernel_rfl) (by kernel_rfl) (fun _ _ _ h => h) (fun w' _ => by kernel_rfl) hS3 ?_
      simp only [Act.put, List.setIfInBounds_toArray, List.set_cons_zero, List.set_cons_succ]
      refine h_take 6 (.int .i64 ae) rfl 25 rfl (by kernel_rfl) (by kernel_rfl) (by kernel_rfl) (by kernel_rfl) (fun _ _ _ h => h) (fun w' _ => by kernel_rfl) hS3 ?_
      simp only [Act.put, List.setIfInBounds_toArray, List.set_cons_zero, List.set_cons_succ]
      refine h_one (i := 8) (by kernel_rfl) (o_skip rfl rfl (by kernel_rfl) (run_op_store _ _ _ rfl N 0 rfl (pcs ac an) rfl _ _ rN3 (fitP KA.out KN.out) (pcs_one _ _) (sz_rpair KA.out KN.out)) ?_)
      have rNf := row_setRow rN3 (lay (pcs zd zd) 0 (pcs ac an))
      have oNf := Only.setRow N y3 (lay (pcs zd zd) 0 (pcs ac an)).toArray
      generalize y3.setRow N (lay (pcs zd zd) 0 (pcs ac an)).toArray = yf at rNf oNf ⊢
      have hSf : Below Z wz yf := below_only hS3 oNf lN (Nat.le_trans ZL.out hS3.size)
      refine ⟨hSf, ?_⟩
      refine h_take 9 (.int .i64 ae) rfl 10 rfl (by kernel_rfl) (by kernel_rfl) (by kernel_rfl) (by kernel_rfl) (fun _ _ _ h => h) (fun w' _ => by kernel_rfl) hSf ?_
      simp only [Act.put, List.setIfInBounds_toArray, List.set_cons_zero, List.set_cons_succ]
      refine wpAnyH_done (by kernel_rfl) ?_ _
      go_wp2_with fail
      go_meet
      exact ⟨N, rfl, rfl, rNf.congr (allP KA.out KN.out), belz.trans (ZW.out ▸ hSf), ZW.out ▸ lN⟩
  case rest =>
    obtain ⟨N, rfl, rfl, rN, hbx, lN⟩ := hcut
    have rF := rF7.old hbx; have rC := rC7.old hbx
    have bel : Below w.heap.size w wc := below_step bel7 bel7.size hbx
    clear hbx rA7 rB7 rC7 rF7 bel7 lN
    go_wp2_with fail
    refine wp_region_quiet (C := fun w' => Below wc.heap.size wc w') (by kernel_rfl) (by kernel_rfl) ((Below.refl _ _).drew) ?_
    rw [List.toList_toArray]
    refine q_value 26 rfl (.agg (u8s lg).toArray) (by kernel_rfl) (fun w' hC => run_op_load _ _ rfl C 0 rfl (u8s lg) ((show Has _ 0 (u8s lg) from Has.refl _).range (rC.old hC)) (szH KL.out)) ?_
    simp only [Act.put, List.setIfInBounds_toArray, List.set_cons_zero, List.set_cons_succ]
    refine q_call 27 rfl (.agg (pcs g g).toArray) 11 #[.agg (u8s lg).toArray] (by kernel_rfl) (fun w' _ => run_op_call _ _ _ rfl _ (by simp only [List.map_toArray, List.map_cons, List.map_nil]; rfl) Tryd.func11 (by kernel_rfl) (by kernel_rfl) w') (fun w' hC => (C1.out w').mono fun e w'' h => ⟨h.1, below_step hC hC.size h.2⟩) ?_
    simp only [Act.put, List.setIfInBounds_toArray, List.set_cons_zero, List.set_cons_succ]
    refine q_call 28 rfl (.agg (pcs g g).toArray) 10 #[.agg (pcs g g).toArray] (by kernel_rfl) (fun w' _ => run_op_call _ _ _ rfl _ (by simp only [List.map_toArray, List.map_cons, List.map_nil]; rfl) Tryd.func10 (by kernel_rfl) (by kernel_rfl) w') (fun w' hC => (own_any g g w' KG.out KG.out).mono fun e w'' h => ⟨h.1, below_step hC hC.size h.2⟩) ?_
    simp only [Act.put, List.setIfInBounds_toArray, List.set_cons_zero, List.set_cons_succ]
    refine q_value 29 rfl (.agg (u8s lg).toArray) (by kernel_rfl) (fun w' hC => run_op_load _ _ rfl C 0 rfl (u8s lg) ((show Has _ 0 (u8s lg) from Has.refl _).range (rC.old hC)) (szH KL.out)) ?_
    simp only [Act.put, List.setIfInBounds_toArray, List.set_cons_zero, List.set_cons_succ]
    refine q_call 30 rfl (.agg (pcs g g).toArray) 12 #[.agg (u8s lg).toArray] (by kernel_rfl) (fun w' _ => run_op_call _ _ _ rfl _ (by simp only [List.map_toArray, List.map_cons, List.map_nil]; rfl) Tryd.func12 (by kernel_rfl) (by kernel_rfl) w') (fun w' hC => (C2.out w').mono fun e w'' h => ⟨h.1, below_step hC hC.size h.2⟩) ?_
    simp only [Act.put, List.setIfInBounds_toArray, List.set_cons_zero, List.set_cons_succ]
    refine q_value 31 rfl (.bool true) (by kernel_rfl) (fun w' _ => run_op_eqlRPair g g KG.out KG.out _ _ _ rfl rfl rfl w') ?_
    simp only [Act.put, List.setIfInBounds_toArray, List.set_cons_zero, List.set_cons_succ]
    refine q_value 32 rfl (.bool true) (by kernel_rfl) (fun w' _ => by kernel_rfl) ?_
    simp only [Act.put, List.setIfInBounds_toArray, List.set_cons_zero, List.set_cons_succ]
    refine q_value 33 rfl (.agg (pcs ac an).toArray) (by kernel_rfl) (fun w' hC => run_op_load _ _ rfl F 0 rfl (pcs ac an) ((show Has _ 0 (pcs ac an) from Has.refl _).range (rF.old hC)) (sz_pair KA.out KN.out)) ?_
    simp only [Act.put, List.setIfInBounds_toArray, List.set_cons_zero, List.set_cons_succ]
    refine q_call 34 rfl (.agg (pcs ac an).toArray) 10 #[.agg (pcs ac an).toArray] (by kernel_rfl) (fun w' _ => run_op_call _ _ _ rfl _ (by simp only [List.map_toArray, List.map_cons, List.map_nil]; rfl) Tryd.func10 (by kernel_rfl) (by kernel_rfl) w') (fun w' hC => (own_any ac an w' KA.out KN.out).mono fun e w'' h => ⟨h.1, below_step hC hC.size h.2⟩) ?_
    simp only [Act.put, List.setIfInBounds_toArray, List.set_cons_zero, List.set_cons_succ]
    refine q_value 35 rfl (.agg (pcs ac an).toArray) (by kernel_rfl) (fun w' hC => run_op_load _ _ rfl N 0 rfl (pcs ac an) ((show Has _ 0 (pcs ac an) from Has.refl _).range (rN.old hC)) (sz_rpair KA.out KN.out)) ?_
    simp only [Act.put, List.setIfInBounds_toArray, List.set_cons_zero, List.set_cons_succ]
    refine q_value 36 rfl (.bool true) (by kernel_rfl) (fun w' _ => run_op_eqlRPair ac an KA.out KN.out _ _ _ rfl rfl rfl w') ?_
    simp only [Act.put, List.setIfInBounds_toArray, List.set_cons_zero, List.set_cons_succ]
    refine q_value 37 rfl (.bool true) (by kernel_rfl) (fun w' _ => by kernel_rfl) ?_
    simp only [Act.put, List.setIfInBounds_toArray, List.set_cons_zero, List.set_cons_succ]
    refine q_value 38 rfl (.bool true) (by kernel_rfl) (fun w' _ => by kernel_rfl) ?_
    simp only [Act.put, List.setIfInBounds_toArray, List.set_cons_zero, List.set_cons_succ]
    refine q_value 39 rfl (.int .i64 ae) (by kernel_rfl) (fun w' _ => by kernel_rfl) ?_
    simp only [Act.put, List.setIfInBounds_toArray, List.set_cons_zero, List.set_cons_succ]
    refine q_value 40 rfl (.int .i64 ae) (by kernel_rfl) (fun w' _ => by kernel_rfl) ?_
    simp only [Act.put, List.setIfInBounds_toArray, List.set_cons_zero, List.set_cons_succ]
    refine q_value 41 rfl (.bool true) (by kernel_rfl) (fun w' _ => by rw [show (Value.bool true) = .bool (ae == ae) by rw [beq_self_eq_true]]; exact run_op_eqlI _ _ .i64 (by kernel_rfl) _ _ rfl .i64 _ _ rfl rfl w') ?_
    simp only [Act.put, List.setIfInBounds_toArray, List.set_cons_zero, List.set_cons_succ]
    refine q_value 42 rfl (.bool true) (by kernel_rfl) (fun w' _ => by kernel_rfl) ?_
    simp only [Act.put, List.setIfInBounds_toArray, List.set_cons_zero, List.set_cons_succ]
    refine q_value 6 rfl (.bool true) (by kernel_rfl) (fun w' _ => by kernel_rfl) ?_
    simp only [Act.put, List.setIfInBounds_toArray, List.set_cons_zero, List.set_cons_succ]
    refine wpQuiet_nil ?_
    intro wf hC
    have belF : Below w.heap.size w wf := below_step bel bel.size hC
    clear hC rF rC rN bel
    go_wp2_with fail
    go_ret
    exact ⟨rfl, belF⟩
end Go.Proofs.YtijpgncecfgfdaaDoor.Ep
