/-
  The walk of layer 10's statement GrowTells, out of the contracts: it returns true, and changes nothing that was there. Over this seat's translation.
-/
import Derived.Test.YtmohlcmhogbkjaaGreatDoorGroAwake
import Derived.Test.YtmohlcmhogbkjaaGreatDoorGroRef
import Derived.Test.YtmohlcmhogbkjaaGreatDoorGroOwn
import Derived.Test.YtmohlcmhogbkjaaGreatDoorStaRRight
namespace Go.Proofs.YtmohlcmhogbkjaaGreatDoor.Gr
open Go.ChangeShapes Go.WideShapes Go.ChangeAt Go.RowKit Go.Proofs.YtmohlcmhogbkjaaGreatDoor.Mem Go.Proofs.YtmohlcmhogbkjaaGreatDoor.Bt Go.Proofs.YtmohlcmhogbkjaaGreatDoor.Rg Go.Proofs.YtmohlcmhogbkjaaGreatDoor.Wn Go.Proofs.YtmohlcmhogbkjaaGreatDoor.Sa Go.Proofs.YtmohlcmhogbkjaaGreatDoor.Sha
open Go.Proofs.YtmohlcmhogbkjaaGreatDoor.Ep (H32 Dat Blk zh zh_ok num32 zd zd_ok Has h_len one_app one_num szH zH fitH allH)
set_option linter.unusedVariables false
set_option linter.unusedSimpArgs false

set_option maxHeartbeats 4000000 in
set_option maxRecDepth 100000 in
theorem growTells_not (s : Sta) (b : Gb) (w : World) (ok : s.Ok) (kb : b.Ok) (hk : w.rangeAt 0 0 (u32s ks)) (hk2 : w.rangeAt 1 0 (u32s ks)) (hr : ¬ SRt s) :
    Calls Tryz.prog 3 #[.agg (scs s).toArray, .agg (gcs b).toArray] w fun e w' => e = .returned (.bool true) ∧ Below w.heap.size w w' := by
  have hk1 : 0 < w.heap.size := range_lt hk (by simp [u32s, ks])
  have HKW : Hid (∀ w', Below w.heap.size w w' → w'.rangeAt 0 0 (u32s ks)) := Lib.hid fun w' hb => range_block hk (hb.block _ hk1)
  have hk3 : 1 < w.heap.size := range_lt hk2 (by simp [u32s, ks])
  have HKR : Hid (∀ w', Below w.heap.size w w' → w'.rangeAt 1 0 (u32s ks)) := Lib.hid fun w' hb => range_block hk2 (hb.block _ hk3)
  have OK := Lib.hid ok; have KB := Lib.hid kb
  have CA := Lib.hid (fun w0 h => awake_any w0 h)
  have CO := Lib.hid (fun w0 => own10_any s w0 ok)
  have CR := Lib.hid (fun w0 => rright_any s w0 ok)
  rw [decide_eq_false hr] at CR
  clear ok kb hk hk1 hk2 hk3 hr
  go_enter Tryz.func3, Tryz.ntmps3
  go_wp2_with (first
    | ((with_reducible refine at_slot 2 ?_); (refine arm_box (o := ⟨some 2, _, _, _, _, _⟩) rfl _ _ rfl (scs s) rfl ?_); intro S v1 Se hv1 nv1)
    | ((with_reducible refine at_slot 3 ?_); (refine arm_box (o := ⟨some 3, _, _, _, _, _⟩) rfl _ _ rfl (gcs b) rfl ?_); intro B v2 Be hv2 nv2))
  have q0 := Se.out
  have q1 := nv1.size
  have q2 := Be.out
  have q3 := nv2.size
  have lS : w.heap.size ≤ S := by omega
  have lB : w.heap.size ≤ B := by omega
  have nSB : S ≠ B := by omega
  have nBS : B ≠ S := by omega
  have rS3 : Row v2 S 35 (scs s) := (hv1.old nv2.below)
  have rB3 : Row v2 B 37 (gcs b) := hv2
  have bel3 : Below w.heap.size w v2 := (below_step (below_step (Below.refl _ _) (by omega) nv1.below) (by omega) nv2.below)
  clear q0 q1 q2 q3 Se hv1 nv1 Be hv2 nv2
  refine (CA.out _ (HKW.out _ bel3)).mono ?_
  rintro e y4 ⟨rfl, hB⟩
  have rS4 : Row y4 S 35 (scs s) := rS3.old hB
  have rB4 : Row y4 B 37 (gcs b) := rB3.old hB
  have bel4 : Below w.heap.size w y4 := below_step bel3 bel3.size hB
  clear hB rS3 rB3 bel3
  go_wp2_with (first
    | ((with_reducible refine at_slot 11 ?_); (refine arm_load (o := ⟨some 11, _, _, _, _, _⟩) rfl _ _ rfl S 0 rfl (scs s) ((show Has (scs s) 0 (scs s) from Has.refl _).range (rS4)) (sz_sta OK.out) ?_)))
  refine (CO.out _).mono ?_
  rintro e y5 ⟨rfl, hB⟩
  have rS5 : Row y5 S 35 (scs s) := rS4.old hB
  have rB5 : Row y5 B 37 (gcs b) := rB4.old hB
  have bel5 : Below w.heap.size w y5 := below_step bel4 bel4.size hB
  clear hB rS4 rB4 bel4
  go_wp2_with fail
  refine (CR.out _).mono ?_
  rintro e y6 ⟨rfl, hB⟩
  have rS6 : Row y6 S 35 (scs s) := rS5.old hB
  have rB6 : Row y6 B 37 (gcs b) := rB5.old hB
  have bel6 : Below w.heap.size w y6 := below_step bel5 bel5.size hB
  clear hB rS5 rB5 bel5
  go_wp2_with fail
  go_ret
  exact ⟨rfl, bel6⟩
set_option maxHeartbeats 4000000 in
set_option maxRecDepth 100000 in
theorem growTells_right (s : Sta) (b : Gb) (w : World) (ok : s.Ok) (kb : b.Ok) (hk : w.rangeAt 0 0 (u32s ks)) (hk2 : w.rangeAt 1 0 (u32s ks)) (hr : SRt s) :
    Calls Tryz.prog 3 #[.agg (scs s).toArray, .agg (gcs b).toArray] w fun e w' => e = .returned (.bool true) ∧ Below w.heap.size w w' := by
  have hk1 : 0 < w.heap.size := range_lt hk (by simp [u32s, ks])
  have HKW : Hid (∀ w', Below w.heap.size w w' → w'.rangeAt 0 0 (u32s ks)) := Lib.hid fun w' hb => range_block hk (hb.block _ hk1)
  have hk3 : 1 < w.heap.size := range_lt hk2 (by simp [u32s, ks])
  have HKR : Hid (∀ w', Below w.heap.size w w' → w'.rangeAt 1 0 (u32s ks)) := Lib.hid fun w' hb => range_block hk2 (hb.block _ hk3)
  have OK := Lib.hid ok; have KB := Lib.hid kb
  have CA := Lib.hid (fun w0 h => awake_any w0 h)
  have CO := Lib.hid (fun w0 => own10_any s w0 ok)
  have CR := Lib.hid (fun w0 => rright_any s w0 ok)
  rw [decide_eq_true hr] at CR
  have CC := Lib.hid (fun w0 h => child_any s b w0 ok hr kb h)
  have CC2 := Lib.hid (fun w0 h => rchild_any s b w0 ok hr kb h)
  have KC := Lib.hid (chS_ok ok hr kb)
  have COC := Lib.hid (fun w0 => own10_any (chS s b) w0 KC.out)
  generalize chS s b = c at CC CC2 KC COC
  generalize chE s b = z at CC CC2
  clear ok kb hk hk1 hk2 hr
  go_enter Tryz.func3, Tryz.ntmps3
  go_wp2_with (first
    | ((with_reducible refine at_slot 2 ?_); (refine arm_box (o := ⟨some 2, _, _, _, _, _⟩) rfl _ _ rfl (scs s) rfl ?_); intro S v1 Se hv1 nv1)
    | ((with_reducible refine at_slot 3 ?_); (refine arm_box (o := ⟨some 3, _, _, _, _, _⟩) rfl _ _ rfl (gcs b) rfl ?_); intro B v2 Be hv2 nv2))
  have q0 := Se.out
  have q1 := nv1.size
  have q2 := Be.out
  have q3 := nv2.size
  have lS : w.heap.size ≤ S := by omega
  have lB : w.heap.size ≤ B := by omega
  have nSB : S ≠ B := by omega
  have nBS : B ≠ S := by omega
  have rS3 : Row v2 S 35 (scs s) := (hv1.old nv2.below)
  have rB3 : Row v2 B 37 (gcs b) := hv2
  have bel3 : Below w.heap.size w v2 := (below_step (below_step (Below.refl _ _) (by omega) nv1.below) (by omega) nv2.below)
  clear q0 q1 q2 q3 Se hv1 nv1 Be hv2 nv2
  refine (CA.out _ (HKW.out _ bel3)).mono ?_
  rintro e y4 ⟨rfl, hB⟩
  have rS4 : Row y4 S 35 (scs s) := rS3.old hB
  have rB4 : Row y4 B 37 (gcs b) := rB3.old hB
  have bel4 : Below w.heap.size w y4 := below_step bel3 bel3.size hB
  clear hB rS3 rB3 bel3
  go_wp2_with (first
    | ((with_reducible refine at_slot 11 ?_); (refine arm_load (o := ⟨some 11, _, _, _, _, _⟩) rfl _ _ rfl S 0 rfl (scs s) ((show Has (scs s) 0 (scs s) from Has.refl _).range (rS4)) (sz_sta OK.out) ?_)))
  refine (CO.out _).mono ?_
  rintro e y5 ⟨rfl, hB⟩
  have rS5 : Row y5 S 35 (scs s) := rS4.old hB
  have rB5 : Row y5 B 37 (gcs b) := rB4.old hB
  have bel5 : Below w.heap.size w y5 := below_step bel4 bel4.size hB
  clear hB rS4 rB4 bel4
  go_wp2_with fail
  refine (CR.out _).mono ?_
  rintro e y6 ⟨rfl, hB⟩
  have rS6 : Row y6 S 35 (scs s) := rS5.old hB
  have rB6 : Row y6 B 37 (gcs b) := rB5.old hB
  have bel6 : Below w.heap.size w y6 := below_step bel5 bel5.size hB
  clear hB rS5 rB5 bel5
  go_wp2_with (first
    | ((with_reducible refine at_slot 16 ?_); (refine arm_load (o := ⟨some 16, _, _, _, _, _⟩) rfl _ _ rfl S 0 rfl (scs s) ((show Has (scs s) 0 (scs s) from Has.refl _).range (rS6)) (sz_sta OK.out) ?_))
    | ((with_reducible refine at_slot 17 ?_); (refine arm_load (o := ⟨some 17, _, _, _, _, _⟩) rfl _ _ rfl B 0 rfl (gcs b) ((show Has (gcs b) 0 (gcs b) from Has.refl _).range (rB6)) (sz_gb KB.out) ?_)))
  refine (CC.out _ (HKW.out _ bel6)).mono ?_
  rintro e y7 ⟨rfl, hB⟩
  have rS7 : Row y7 S 35 (scs s) := rS6.old hB
  have rB7 : Row y7 B 37 (gcs b) := rB6.old hB
  have bel7 : Below w.heap.size w y7 := below_step bel6 bel6.size hB
  clear hB rS6 rB6 bel6
  go_wp2_with (first
    | ((with_reducible refine at_slot 5 ?_); (refine arm_alloc (o := ⟨some 5, _, _, _, _, _⟩) rfl _ rfl (scs zs) z_sta ?_); intro C v8 Ce hv8 nv8)
    | ((with_reducible refine arm_store (o := ⟨none, _, _, _, _, _⟩) rfl _ _ _ rfl C 0 rfl (scs c) rfl _ _ (hv8) (fitS KC.out) (scs_one _) (sz_sta KC.out) ?_); intro v9 hv9 ov9 sv9))
  have q0 := Ce.out
  have q1 := nv8.size
  have q2 := sv9.out
  have q3 := rS7.lt
  have q4 := rB7.lt
  have q5 := bel7.size
  have lC : w.heap.size ≤ C := by omega
  have nSC : S ≠ C := by omega
  have nCS : C ≠ S := by omega
  have nBC : B ≠ C := by omega
  have nCB : C ≠ B := by omega
  have rS10 : Row v9 S 35 (scs s) := ((rS7.old nv8.below).only ov9 nSC)
  have rB10 : Row v9 B 37 (gcs b) := ((rB7.old nv8.below).only ov9 nBC)
  have rC10 : Row v9 C 35 (scs c) := (hv9.congr (allS KC.out))
  have bel10 : Below w.heap.size w v9 := (below_only (below_step bel7 (by omega) nv8.below) ov9 lC (by omega))
  clear q0 q1 q2 q3 q4 q5 rS7 rB7 bel7 Ce hv8 nv8 hv9 ov9 sv9
  go_cut [7, 8] (fun nn ee wx => ∃ N : Nat, nn = .pointer (some ⟨N, 0, none⟩) ∧ ee = .int .i64 z ∧ Row wx N 47 (scs c) ∧ Below v9.heap.size v9 wx ∧ v9.heap.size ≤ N)
  case first =>
    obtain ⟨Z, hZ⟩ : ∃ Z, Z = v9.heap.size := ⟨_, rfl⟩
    refine wp_region_held (S := fun w' => Below Z v9.drew w') (by kernel_rfl) ?_
    change wpAnyH _ _ _ _ _ _ _ _ v9.drew
    have rSz : Row v9.drew S 35 (scs s) := rS10
    have rBz : Row v9.drew B 37 (gcs b) := rB10
    have kz : v9.drew.rangeAt 1 0 (u32s ks) := HKR.out _ bel10.drew
    have belz : Below v9.heap.size v9 v9.drew := (Below.refl _ _).drew
    have hS : Below Z v9.drew v9.drew := Below.refl _ _
    have ez : v9.drew.heap.size = v9.heap.size := rfl
    have ZL : Hid (Z ≤ v9.drew.heap.size) := Lib.hid (by omega)
    have ZE : Hid (v9.drew.heap.size = Z) := Lib.hid (by omega)
    have ZW := Lib.hid hZ
    generalize v9.drew = wz at rSz rBz kz belz hS ZL ZE ⊢
    clear hZ ez
    refine h_take 0 (.agg (scs s).toArray) rfl 22 rfl (by kernel_rfl) (by kernel_rfl) (by kernel_rfl) (by kernel_rfl) (fun _ _ _ h => h) (fun w' hC => run_op_load _ _ rfl S 0 rfl (scs s) ((Has.refl _).range (rSz.below hC (ZW.out ▸ rS10.lt))) (sz_sta OK.out)) hS ?_
    simp only [Act.put, List.setIfInBounds_toArray, List.set_cons_zero, List.set_cons_succ]
    refine h_take 2 (.agg (gcs b).toArray) rfl 24 rfl (by kernel_rfl) (by kernel_rfl) (by kernel_rfl) (by kernel_rfl) (fun _ _ _ h => h) (fun w' hC => run_op_load _ _ rfl B 0 rfl (gcs b) ((Has.refl _).range (rBz.below hC (ZW.out ▸ rB10.lt))) (sz_gb KB.out)) hS ?_
    simp only [Act.put, List.setIfInBounds_toArray, List.set_cons_zero, List.set_cons_succ]
    refine h_two (i := 1) (j := 7) (by kernel_rfl) ?_ ?_
    · skip
      refine (o_call rfl 23 rfl (by kernel_rfl) (run_op_call 6 _ _ rfl #[.agg (scs s).toArray] (by simp only [List.map_toArray, List.map_cons, List.map_nil]; rfl) Tryz.func6 (by kernel_rfl) (by kernel_rfl) _) (CO.out _) ?_)
      rintro e y0 ⟨rfl, hB⟩
      have hS0 : Below Z wz y0 := below_step hS (Nat.le_trans ZL.out hS.size) hB
      refine ⟨_, rfl, hS0, ?_⟩
      clear hB
      simp only [Act.put, List.setIfInBounds_toArray, List.set_cons_zero, List.set_cons_succ]
      refine h_two (i := 3) (j := 7) (by kernel_rfl) ?_ ?_
      · skip
        refine (o_call rfl 25 rfl (by kernel_rfl) (run_op_call 8 _ _ rfl #[.agg (scs s).toArray, .agg (gcs b).toArray] (by simp only [List.map_toArray, List.map_cons, List.map_nil]; rfl) Tryz.func8 (by kernel_rfl) (by kernel_rfl) _) (CC2.out _ (range_block kz (hS0.block _ (by have := ZW.out; have := bel10.size; omega)))) ?_)
        rintro e y1 ⟨rfl, hB⟩
        have hS1 : Below Z wz y1 := below_step hS0 (Nat.le_trans ZL.out hS0.size) hB
        refine ⟨_, rfl, hS1, ?_⟩
        clear hB
        simp only [Act.put, List.setIfInBounds_toArray, List.set_cons_zero, List.set_cons_succ]
        refine h_take 4 (.tuple #[.agg (scs c).toArray, .int .i64 z]) rfl 21 rfl (by kernel_rfl) (by kernel_rfl) (by kernel_rfl) (by kernel_rfl) (fun _ _ _ h => h) (fun w' _ => by kernel_rfl) hS1 ?_
        simp only [Act.put, List.setIfInBounds_toArray, List.set_cons_zero, List.set_cons_succ]
        refine h_take 5 (.agg (scs c).toArray) rfl 26 rfl (by kernel_rfl) (by kernel_rfl) (by kernel_rfl) (by kernel_rfl) (fun _ _ _ h => h) (fun w' _ => by kernel_rfl) hS1 ?_
        simp only [Act.put, List.setIfInBounds_toArray, List.set_cons_zero, List.set_cons_succ]
        refine h_take 6 (.int .i64 z) rfl 27 rfl (by kernel_rfl) (by kernel_rfl) (by kernel_rfl) (by kernel_rfl) (fun _ _ _ h => h) (fun w' _ => by kernel_rfl) hS1 ?_
        simp only [Act.put, List.setIfInBounds_toArray, List.set_cons_zero, List.set_cons_succ]
        refine h_one (i := 7) (by kernel_rfl) (o_value _ rfl 7 rfl (by kernel_rfl) (run_op_alloc _ rfl (scs zs) z_rsta) ?_)
        have hN := new_alloc y1 (.cells (scs zs).toArray 47)
        have rN2 : Row (y1.alloc (.cells (scs zs).toArray 47)) y1.heap.size 47 (scs zs) := heap_alloc_new _ _
        have lN : Z ≤ y1.heap.size := Nat.le_trans ZL.out hS1.size
        generalize y1.alloc (.cells (scs zs).toArray 47) = y2 at hN rN2 ⊢
        have hS2 : Below Z wz y2 := below_step hS1 (Nat.le_trans ZL.out hS1.size) hN.below
        clear hN
        refine ⟨hS2, ?_⟩
        generalize y1.heap.size = N at rN2 lN ⊢
        simp only [Act.put, List.setIfInBounds_toArray, List.set_cons_zero, List.set_cons_succ]
        refine h_one (i := 8) (by kernel_rfl) (o_skip rfl rfl (by kernel_rfl) (run_op_store _ _ _ rfl N 0 rfl (scs c) rfl _ _ rN2 (fitS KC.out) (scs_one _) (sz_rsta KC.out)) ?_)
        have rNf := row_setRow rN2 (lay (scs zs) 0 (scs c))
        have oNf := Only.setRow N y2 (lay (scs zs) 0 (scs c)).toArray
        generalize y2.setRow N (lay (scs zs) 0 (scs c)).toArray = yf at rNf oNf ⊢
        have hSf : Below Z wz yf := below_only hS2 oNf lN (Nat.le_trans ZL.out hS2.size)
        refine ⟨hSf, ?_⟩
        refine h_take 9 (.int .i64 z) rfl 8 rfl (by kernel_rfl) (by kernel_rfl) (by kernel_rfl) (by kernel_rfl) (fun _ _ _ h => h) (fun w' _ => by kernel_rfl) hSf ?_
        simp only [Act.put, List.setIfInBounds_toArray, List.set_cons_zero, List.set_cons_succ]
        refine wpAnyH_done (by kernel_rfl) ?_ _
        go_wp2_with fail
        go_meet
        exact ⟨N, rfl, rfl, rNf.congr (allS KC.out), belz.trans (ZW.out ▸ hSf), ZW.out ▸ lN⟩
      · skip
        refine (o_value _ rfl 7 rfl (by kernel_rfl) (run_op_alloc _ rfl (scs zs) z_rsta) ?_)
        have hN := new_alloc y0 (.cells (scs zs).toArray 47)
        have rN1 : Row (y0.alloc (.cells (scs zs).toArray 47)) y0.heap.size 47 (scs zs) := heap_alloc_new _ _
        have lN : Z ≤ y0.heap.size := Nat.le_trans ZL.out hS0.size
        generalize y0.alloc (.cells (scs zs).toArray 47) = y1 at hN rN1 ⊢
        have hS1 : Below Z wz y1 := below_step hS0 (Nat.le_trans ZL.out hS0.size) hN.below
        clear hN
        refine ⟨hS1, ?_⟩
        generalize y0.heap.size = N at rN1 lN ⊢
        simp only [Act.put, List.setIfInBounds_toArray, List.set_cons_zero, List.set_cons_succ]
        refine h_one (i := 3) (by kernel_rfl) (o_call rfl 25 rfl (by kernel_rfl) (run_op_call 8 _ _ rfl #[.agg (scs s).toArray, .agg (gcs b).toArray] (by simp only [List.map_toArray, List.map_cons, List.map_nil]; rfl) Tryz.func8 (by kernel_rfl) (by kernel_rfl) _) (CC2.out _ (range_block kz (hS1.block _ (by have := ZW.out; have := bel10.size; omega)))) ?_)
        rintro e y2 ⟨rfl, hB⟩
        have hS2 : Below Z wz y2 := below_step hS1 (Nat.le_trans ZL.out hS1.size) hB
        refine ⟨_, rfl, hS2, ?_⟩
        have rN2 := rN1.old hB
        clear hB
        simp only [Act.put, List.setIfInBounds_toArray, List.set_cons_zero, List.set_cons_succ]
        refine h_take 4 (.tuple #[.agg (scs c).toArray, .int .i64 z]) rfl 21 rfl (by kernel_rfl) (by kernel_rfl) (by kernel_rfl) (by kernel_rfl) (fun _ _ _ h => h) (fun w' _ => by kernel_rfl) hS2 ?_
        simp only [Act.put, List.setIfInBounds_toArray, List.set_cons_zero, List.set_cons_succ]
        refine h_take 5 (.agg (scs c).toArray) rfl 26 rfl (by kernel_rfl) (by kernel_rfl) (by kernel_rfl) (by kernel_rfl) (fun _ _ _ h => h) (fun w' _ => by kernel_rfl) hS2 ?_
        simp only [Act.put, List.setIfInBounds_toArray, List.set_cons_zero, List.set_cons_succ]
        refine h_take 6 (.int .i64 z) rfl 27 rfl (by kernel_rfl) (by kernel_rfl) (by kernel_rfl) (by kernel_rfl) (fun _ _ _ h => h) (fun w' _ => by kernel_rfl) hS2 ?_
        simp only [Act.put, List.setIfInBounds_toArray, List.set_cons_zero, List.set_cons_succ]
        refine h_one (i := 8) (by kernel_rfl) (o_skip rfl rfl (by kernel_rfl) (run_op_store _ _ _ rfl N 0 rfl (scs c) rfl _ _ rN2 (fitS KC.out) (scs_one _) (sz_rsta KC.out)) ?_)
        have rNf := row_setRow rN2 (lay (scs zs) 0 (scs c))
        have oNf := Only.setRow N y2 (lay (scs zs) 0 (scs c)).toArray
        generalize y2.setRow N (lay (scs zs) 0 (scs c)).toArray = yf at rNf oNf ⊢
        have hSf : Below Z wz yf := below_only hS2 oNf lN (Nat.le_trans ZL.out hS2.size)
        refine ⟨hSf, ?_⟩
        refine h_take 9 (.int .i64 z) rfl 8 rfl (by kernel_rfl) (by kernel_rfl) (by kernel_rfl) (by kernel_rfl) (fun _ _ _ h => h) (fun w' _ => by kernel_rfl) hSf ?_
        simp only [Act.put, List.setIfInBounds_toArray, List.set_cons_zero, List.set_cons_succ]
        refine wpAnyH_done (by kernel_rfl) ?_ _
        go_wp2_with fail
        go_meet
        exact ⟨N, rfl, rfl, rNf.congr (allS KC.out), belz.trans (ZW.out ▸ hSf), ZW.out ▸ lN⟩
    · skip
      refine (o_value _ rfl 7 rfl (by kernel_rfl) (run_op_alloc _ rfl (scs zs) z_rsta) ?_)
      have hN := new_alloc wz (.cells (scs zs).toArray 47)
      have rN1 : Row (wz.alloc (.cells (scs zs).toArray 47)) wz.heap.size 47 (scs zs) := heap_alloc_new _ _
      have lN : Z ≤ wz.heap.size := Nat.le_trans ZL.out hS.size
      generalize wz.alloc (.cells (scs zs).toArray 47) = y1 at hN rN1 ⊢
      have hS1 : Below Z wz y1 := below_step hS (Nat.le_trans ZL.out hS.size) hN.below
      clear hN
      refine ⟨hS1, ?_⟩
      generalize wz.heap.size = N at rN1 lN ⊢
      simp only [Act.put, List.setIfInBounds_toArray, List.set_cons_zero, List.set_cons_succ]
      refine h_one (i := 1) (by kernel_rfl) (o_call rfl 23 rfl (by kernel_rfl) (run_op_call 6 _ _ rfl #[.agg (scs s).toArray] (by simp only [List.map_toArray, List.map_cons, List.map_nil]; rfl) Tryz.func6 (by kernel_rfl) (by kernel_rfl) _) (CO.out _) ?_)
      rintro e y2 ⟨rfl, hB⟩
      have hS2 : Below Z wz y2 := below_step hS1 (Nat.le_trans ZL.out hS1.size) hB
      refine ⟨_, rfl, hS2, ?_⟩
      have rN2 := rN1.old hB
      clear hB
      simp only [Act.put, List.setIfInBounds_toArray, List.set_cons_zero, List.set_cons_succ]
      refine h_one (i := 3) (by kernel_rfl) (o_call rfl 25 rfl (by kernel_rfl) (run_op_call 8 _ _ rfl #[.agg (scs s).toArray, .agg (gcs b).toArray] (by simp only [List.map_toArray, List.map_cons, List.map_nil]; rfl) Tryz.func8 (by kernel_rfl) (by kernel_rfl) _) (CC2.out _ (range_block kz (hS2.block _ (by have := ZW.out; have := bel10.size; omega)))) ?_)
      rintro e y3 ⟨rfl, hB⟩
      have hS3 : Below Z wz y3 := below_step hS2 (Nat.le_trans ZL.out hS2.size) hB
      refine ⟨_, rfl, hS3, ?_⟩
      have rN3 := rN2.old hB
      clear hB
      simp only [Act.put, List.setIfInBounds_toArray, List.set_cons_zero, List.set_cons_succ]
      refine h_take 4 (.tuple #[.agg (scs c).toArray, .int .i64 z]) rfl 21 rfl (by kernel_rfl) (by kernel_rfl) (by kernel_rfl) (by kernel_rfl) (fun _ _ _ h => h) (fun w' _ => by kernel_rfl) hS3 ?_
      simp only [Act.put, List.setIfInBounds_toArray, List.set_cons_zero, List.set_cons_succ]
      refine h_take 5 (.agg (scs c).toArray) rfl 26 rfl (by kernel_rfl) (by kernel_rfl) (by kernel_rfl) (by kernel_rfl) (fun _ _ _ h => h) (fun w' _ => by kernel_rfl) hS3 ?_
      simp only [Act.put, List.setIfInBounds_toArray, List.set_cons_zero, List.set_cons_succ]
      refine h_take 6 (.int .i64 z) rfl 27 rfl (by kernel_rfl) (by kernel_rfl) (by kernel_rfl) (by kernel_rfl) (fun _ _ _ h => h) (fun w' _ => by kernel_rfl) hS3 ?_
      simp only [Act.put, List.setIfInBounds_toArray, List.set_cons_zero, List.set_cons_succ]
      refine h_one (i := 8) (by kernel_rfl) (o_skip rfl rfl (by kernel_rfl) (run_op_store _ _ _ rfl N 0 rfl (scs c) rfl _ _ rN3 (fitS KC.out) (scs_one _) (sz_rsta KC.out)) ?_)
      have rNf := row_setRow rN3 (lay (scs zs) 0 (scs c))
      have oNf := Only.setRow N y3 (lay (scs zs) 0 (scs c)).toArray
      generalize y3.setRow N (lay (scs zs) 0 (scs c)).toArray = yf at rNf oNf ⊢
      have hSf : Below Z wz yf := below_only hS3 oNf lN (Nat.le_trans ZL.out hS3.size)
      refine ⟨hSf, ?_⟩
      refine h_take 9 (.int .i64 z) rfl 8 rfl (by kernel_rfl) (by kernel_rfl) (by kernel_rfl) (by kernel_rfl) (fun _ _ _ h => h) (fun w' _ => by kernel_rfl) hSf ?_
      simp only [Act.put, List.setIfInBounds_toArray, List.set_cons_zero, List.set_cons_succ]
      refine wpAnyH_done (by kernel_rfl) ?_ _
      go_wp2_with fail
      go_meet
      exact ⟨N, rfl, rfl, rNf.congr (allS KC.out), belz.trans (ZW.out ▸ hSf), ZW.out ▸ lN⟩
  case rest =>
    obtain ⟨N, rfl, rfl, rN, hbx, lN⟩ := hcut
    have rC9 := rC10.old hbx
    have bel9 : Below w.heap.size w wc := below_step bel10 bel10.size hbx
    clear hbx rS10 rB10 rC10 bel10 lN
    go_wp2_with fail
    refine wp_region_held (S := fun w' => Row w' C 35 (scs c) ∧ Row w' N 47 (scs c) ∧ True) (by kernel_rfl) ?_
    change wpAnyH _ _ _ _ _ _ _ _ wc.drew
    have rC201 : Row wc.drew C 35 (scs c) := rC9
    have rN201 : Row wc.drew N 47 (scs c) := rN
    have bel201 : Below w.heap.size w wc.drew := bel9.trans ((Below.refl _ _).drew)
    clear rC9 rN bel9
    generalize wc.drew = y201 at rC201 rN201 bel201 ⊢
    refine h_take 0 (.agg (scs c).toArray) rfl 28 rfl (by kernel_rfl) (by kernel_rfl) (by kernel_rfl) (by kernel_rfl) (fun _ _ _ h => h) (fun w' hw => run_op_load _ _ rfl C 0 rfl (scs c) ((show Has (scs c) 0 (scs c) from Has.refl _).range hw.1) (sz_sta KC.out)) ⟨rC201, rN201, trivial⟩ ?_
    simp only [Act.put, List.setIfInBounds_toArray, List.set_cons_zero, List.set_cons_succ]
    refine h_take 2 (.agg (scs c).toArray) rfl 30 rfl (by kernel_rfl) (by kernel_rfl) (by kernel_rfl) (by kernel_rfl) (fun _ _ _ h => h) (fun w' hw => run_op_load _ _ rfl N 0 rfl (scs c) ((show Has (scs c) 0 (scs c) from Has.refl _).range hw.2.1) (sz_rsta KC.out)) ⟨rC201, rN201, trivial⟩ ?_
    simp only [Act.put, List.setIfInBounds_toArray, List.set_cons_zero, List.set_cons_succ]
    refine h_one (i := 1) (by kernel_rfl) (o_call rfl 29 rfl (by kernel_rfl) (run_op_call 6 _ _ rfl #[.agg (scs c).toArray] (by simp only [List.map_toArray, List.map_cons, List.map_nil]; rfl) Tryz.func6 (by kernel_rfl) (by kernel_rfl) _) (COC.out y201) ?_)
    rintro e y202 ⟨rfl, hB⟩
    have rC202 : Row y202 C 35 (scs c) := rC201.old hB
    have rN202 : Row y202 N 47 (scs c) := rN201.old hB
    have bel202 : Below w.heap.size w y202 := below_step bel201 bel201.size hB
    clear hB rC201 rN201 bel201
    refine ⟨_, rfl, ⟨rC202, rN202, trivial⟩, ?_⟩
    simp only [Act.put, List.setIfInBounds_toArray, List.set_cons_zero, List.set_cons_succ]
    refine h_take 3 (.bool true) rfl 31 rfl (by kernel_rfl) (by kernel_rfl) (by kernel_rfl) (by kernel_rfl) (fun _ _ _ h => h) (fun w' _ => run_op_eqlRS KC.out KC.out _ _ _ rfl rfl rfl true (by simp) w') ⟨rC202, rN202, trivial⟩ ?_
    simp only [Act.put, List.setIfInBounds_toArray, List.set_cons_zero, List.set_cons_succ]
    refine h_take 4 (.bool true) rfl 32 rfl (by kernel_rfl) (by kernel_rfl) (by kernel_rfl) (by kernel_rfl) (fun _ _ _ h => h) (fun w' _ => by kernel_rfl) ⟨rC202, rN202, trivial⟩ ?_
    simp only [Act.put, List.setIfInBounds_toArray, List.set_cons_zero, List.set_cons_succ]
    refine h_take 5 (.int .i64 z) rfl 33 rfl (by kernel_rfl) (by kernel_rfl) (by kernel_rfl) (by kernel_rfl) (fun _ _ _ h => h) (fun w' _ => by kernel_rfl) ⟨rC202, rN202, trivial⟩ ?_
    simp only [Act.put, List.setIfInBounds_toArray, List.set_cons_zero, List.set_cons_succ]
    refine h_take 6 (.int .i64 z) rfl 34 rfl (by kernel_rfl) (by kernel_rfl) (by kernel_rfl) (by kernel_rfl) (fun _ _ _ h => h) (fun w' _ => by kernel_rfl) ⟨rC202, rN202, trivial⟩ ?_
    simp only [Act.put, List.setIfInBounds_toArray, List.set_cons_zero, List.set_cons_succ]
    refine h_take 7 (.bool true) rfl 35 rfl (by kernel_rfl) (by kernel_rfl) (by kernel_rfl) (by kernel_rfl) (fun _ _ _ h => h) (fun w' _ => cmp_eql _ _ .i64 (by kernel_rfl) _ _ rfl .i64 z z rfl rfl true (decide_eq_true rfl) w') ⟨rC202, rN202, trivial⟩ ?_
    simp only [Act.put, List.setIfInBounds_toArray, List.set_cons_zero, List.set_cons_succ]
    refine h_take 8 (.bool true) rfl 36 rfl (by kernel_rfl) (by kernel_rfl) (by kernel_rfl) (by kernel_rfl) (fun _ _ _ h => h) (fun w' _ => by kernel_rfl) ⟨rC202, rN202, trivial⟩ ?_
    simp only [Act.put, List.setIfInBounds_toArray, List.set_cons_zero, List.set_cons_succ]
    refine h_take 9 (.bool true) rfl 4 rfl (by kernel_rfl) (by kernel_rfl) (by kernel_rfl) (by kernel_rfl) (fun _ _ _ h => h) (fun w' _ => by kernel_rfl) ⟨rC202, rN202, trivial⟩ ?_
    simp only [Act.put, List.setIfInBounds_toArray, List.set_cons_zero, List.set_cons_succ]
    refine wpAnyH_done (by kernel_rfl) ?_ _
    go_wp2_with fail
    go_ret
    exact ⟨rfl, bel202⟩
theorem growTells_any (s : Sta) (b : Gb) (w : World) (ok : s.Ok) (kb : b.Ok) (hk : w.rangeAt 0 0 (u32s ks)) (hk2 : w.rangeAt 1 0 (u32s ks)) :
    Calls Tryz.prog 3 #[.agg (scs s).toArray, .agg (gcs b).toArray] w fun e w' => e = .returned (.bool true) ∧ Below w.heap.size w w' := by
  by_cases hr : SRt s
  · exact growTells_right s b w ok kb hk hk2 hr
  · exact growTells_not s b w ok kb hk hk2 hr
end Go.Proofs.YtmohlcmhogbkjaaGreatDoor.Gr
