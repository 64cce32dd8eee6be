/-
  The contracts of the document's answers for layer 8 (Seed, First, Follow) and of the law's 'own'. Over this seat's translation.
-/
import Derived.Test.YtijpgncecfgfdaaDoorEpoFollow
namespace Go.Proofs.YtijpgncecfgfdaaDoor.Ep
open Go.ChangeShapes Go.WideShapes Go.ChangeAt Go.RowKit Go.Proofs.YtijpgncecfgfdaaDoor.Mem Go.Proofs.YtijpgncecfgfdaaDoor.Bt Go.Proofs.YtijpgncecfgfdaaDoor.Sha Go.Proofs.YtijpgncecfgfdaaDoor.Tg
set_option linter.unusedVariables false
set_option linter.unusedSimpArgs false

theorem zH : Mem.Zero Tryd.prog 23 (u8s zh) := z25
theorem fitH {h : List Nat} (k : H32 h) : 0 + (u8s h).length ≤ (u8s zh).length := by rw [h_len k, h_len zh_ok]; omega
theorem allH {h : List Nat} (k : H32 h) : lay (u8s zh) 0 (u8s h) = u8s h := lay_all _ _ (by rw [h_len k, h_len zh_ok])
set_option maxHeartbeats 4000000 in
set_option maxRecDepth 100000 in
theorem rseed_any (s x : List Nat) (w : World) (ks1 : H32 s) (kx : H32 x) (hk : w.rangeAt 0 0 (u32s ks)) :
    Calls Tryd.prog 17 #[.agg (u8s s).toArray, .agg (u8s x).toArray] w fun e w' => e = .returned (.agg (u8s (seedN s x)).toArray) ∧ Below w.heap.size w w' := by
  obtain ⟨sd, hsd⟩ : ∃ sd, sd = seedN s x := ⟨_, rfl⟩
  have HSD := Lib.hid hsd
  have KD := Lib.hid (show H32 sd by rw [hsd]; exact seed_ok _ _)
  have KS := Lib.hid ks1; have KX := Lib.hid kx
  have HK := Lib.hid hk
  have hk1 : 0 < w.heap.size := range_lt hk (by simp [u32s, ks])
  rw [← hsd]
  clear hsd ks1 kx hk
  go_enter Tryd.func17, Tryd.ntmps17
  go_wp2_with (first
    | ((with_reducible refine at_slot 2 ?_); (refine arm_box (o := ⟨some 2, _, _, _, _, _⟩) rfl _ _ rfl (u8s s) rfl ?_); intro S w1 Se hw1 nw1)
    | ((with_reducible refine at_slot 3 ?_); (refine arm_box (o := ⟨some 3, _, _, _, _, _⟩) rfl _ _ rfl (u8s x) rfl ?_); intro X w2 Xe hw2 nw2)
    | ((with_reducible refine at_slot 4 ?_); (refine arm_alloc (o := ⟨some 4, _, _, _, _, _⟩) rfl _ rfl (u8s zh) zH ?_); intro R w3 Re hw3 nw3))
  have e1 := Se.out; have e2 := Xe.out; have e3 := Re.out
  have s1 := nw1.size; have s2 := nw2.size; have s3 := nw3.size
  have rS := (hw1.old nw2.below).old nw3.below; have rX := hw2.old nw3.below; have rR := hw3
  have lR : w.heap.size ≤ R := by omega
  have bel : Below w.heap.size w w3 := below_step (below_step nw1.below (by omega) nw2.below) (by omega) nw3.below
  clear e1 e2 e3 s1 s2 s3 Se Xe Re hw1 nw1 hw2 nw2 hw3 nw3
  refine wp_region_held (S := fun w' => True) (by kernel_rfl) ?_
  change wpAnyH _ _ _ _ _ _ _ _ w3.drew
  have rSz : Row w3.drew S 23 (u8s s) := rS
  have rXz : Row w3.drew X 23 (u8s x) := rX
  have rRz : Row w3.drew R 23 (u8s zh) := rR
  have bz : Below w.heap.size w w3.drew := bel.drew
  generalize w3.drew = wz at rSz rXz rRz bz ⊢
  have hS : (fun w' => True) wz := trivial
  refine h_take 0 (.slice (some ⟨S, 0, none⟩) 32 32) rfl 5 rfl (by kernel_rfl) (by kernel_rfl) (by kernel_rfl) (by kernel_rfl) (fun _ _ _ h => h) (fun w' _ => run_op_sliceAll _ _ rfl 32 5 (by kernel_rfl) (by kernel_rfl) S 0 rfl (by omega) w') hS ?_
  simp only [Act.put, List.setIfInBounds_toArray, List.set_cons_zero, List.set_cons_succ]
  refine h_take 1 (.slice (some ⟨X, 0, none⟩) 32 32) rfl 6 rfl (by kernel_rfl) (by kernel_rfl) (by kernel_rfl) (by kernel_rfl) (fun _ _ _ h => h) (fun w' _ => run_op_sliceAll _ _ rfl 32 5 (by kernel_rfl) (by kernel_rfl) X 0 rfl (by omega) w') hS ?_
  simp only [Act.put, List.setIfInBounds_toArray, List.set_cons_zero, List.set_cons_succ]
  refine h_one (i := 2) (by kernel_rfl) (o_value _ rfl 7 rfl (by kernel_rfl) (run_op_two _ _ rfl (some ⟨S, 0, none⟩) (some ⟨X, 0, none⟩) 32 32 32 32 rfl rfl _) ?_)
  have hN := new_alloc wz (.cells #[.slice (some ⟨S, 0, none⟩) 32 32, .slice (some ⟨X, 0, none⟩) 32 32] 65)
  have rP : Row (wz.alloc (.cells #[.slice (some ⟨S, 0, none⟩) 32 32, .slice (some ⟨X, 0, none⟩) 32 32] 65)) wz.heap.size 65 [.slice (some ⟨S, 0, none⟩) 32 32, .slice (some ⟨X, 0, none⟩) 32 32] := heap_alloc_new _ _
  generalize wz.alloc (.cells #[.slice (some ⟨S, 0, none⟩) 32 32, .slice (some ⟨X, 0, none⟩) 32 32] 65) = y1 at hN rP ⊢
  have rSy := rSz.old hN.below; have rXy := rXz.old hN.below; have rRy := rRz.old hN.below
  have by1 : Below w.heap.size w y1 := below_step bz bz.size hN.below
  have hpt : Parts y1 (some ⟨wz.heap.size, 0, none⟩) [s, x] := parts_hh rP (came_at ((Has.refl _).range rSy) KS.out) (came_at ((Has.refl _).range rXy) KX.out) KS.out KX.out
  refine ⟨trivial, ?_⟩
  simp only [Act.put, List.setIfInBounds_toArray, List.set_cons_zero, List.set_cons_succ]
  clear hN rSz rXz rRz bz rP
  generalize wz.heap.size = P at hpt ⊢
  refine h_one (i := 3) (by kernel_rfl) (o_call rfl 8 rfl (by kernel_rfl) (run_op_call 21 _ _ rfl #[.string ⟨#[115, 101, 101, 100]⟩, .slice (some ⟨P, 0, none⟩) 2 2] (by simp only [List.map_toArray, List.map_cons, List.map_nil]; rfl) Tryd.func21 (by kernel_rfl) (by kernel_rfl) _) (refTag_any ⟨#[115, 101, 101, 100]⟩ [s, x] (some ⟨P, 0, none⟩) 2 y1 (by simp [total, KS.out.len, KX.out.len]) hpt (range_block HK.out (by1.block _ hk1))) ?_)
  rw [show tagD ⟨#[115, 101, 101, 100]⟩ [s, x] = sd from HSD.out.symm]
  rintro e y2 ⟨rfl, hB2⟩
  have rRy2 := rRy.old hB2
  have by2 : Below w.heap.size w y2 := below_step by1 by1.size hB2
  clear hB2 hpt rSy rXy rRy by1
  refine ⟨_, rfl, trivial, ?_⟩
  simp only [Act.put, List.setIfInBounds_toArray, List.set_cons_zero, List.set_cons_succ]
  refine h_one (i := 4) (by kernel_rfl) (o_skip rfl rfl (by kernel_rfl) (run_op_store _ _ _ rfl R 0 rfl (u8s sd) rfl _ _ rRy2 (fitH KD.out) (u8s_one _) (szH KD.out)) ?_)
  have rRf := row_setRow rRy2 (lay (u8s zh) 0 (u8s sd))
  have oRf := Only.setRow R y2 (lay (u8s zh) 0 (u8s sd)).toArray
  generalize y2.setRow R (lay (u8s zh) 0 (u8s sd)).toArray = y3 at rRf oRf ⊢
  refine ⟨trivial, ?_⟩
  refine wpAnyH_done (by kernel_rfl) ?_ _
  go_wp2_with fail
  exact bodyPost_ret (v := .agg (u8s sd).toArray) (result_row (p := 4) (ty := 23) (u := 23) (by kernel_rfl) _ _ R (u8s sd) rfl (rRf.congr (allH KD.out)) (szH KD.out)) rfl ⟨rfl, below_only by2 oRf lR by2.size⟩
set_option maxHeartbeats 4000000 in
set_option maxRecDepth 100000 in
theorem rfirst_any (x : List Nat) (w : World) (k : H32 x) :
    Calls Tryd.prog 12 #[.agg (u8s x).toArray] w fun e w' => e = .returned (.agg (pcs ⟨x, zh, zh, zh, 1⟩ ⟨x, zh, zh, zh, 1⟩).toArray) ∧ Below w.heap.size w w' := by
  have K := Lib.hid k
  have KD := Lib.hid (show (Dat.mk x zh zh zh 1).Ok from ⟨k, zh_ok, zh_ok, zh_ok, (by decide : 1 < 4294967296)⟩)
  have B1 := Lib.hid (built_rdat1 k)
  clear k
  generalize Dat.mk x zh zh zh 1 = d at KD B1 ⊢
  have B2 := Lib.hid (built_rpair KD.out KD.out)
  go_enter Tryd.func12, Tryd.ntmps12
  go_wp2_with (first
    | ((with_reducible refine at_slot 1 ?_); (refine arm_box (o := ⟨some 1, _, _, _, _, _⟩) rfl _ _ rfl (u8s x) rfl ?_); intro X w1 Xe hw1 nw1)
    | ((with_reducible refine at_slot 2 ?_); (refine arm_alloc (o := ⟨some 2, _, _, _, _, _⟩) rfl _ rfl (pcs zd zd) z_rpair ?_); intro R w2 Re hw2 nw2)
    | ((with_reducible refine at_slot 3 ?_); (refine arm_load (o := ⟨some 3, _, _, _, _, _⟩) rfl _ _ rfl X 0 rfl (u8s x) ((Has.refl _).range (hw1.old nw2.below)) (szH K.out) ?_))
    | ((with_reducible refine at_slot 4 ?_); (refine arm_build (o := ⟨some 4, _, _, _, _, _⟩) rfl _ _ rfl (dcs d) (by simp only [List.map_toArray, List.map_cons, List.map_nil]; exact B1.out) ?_))
    | ((with_reducible refine at_slot 5 ?_); (refine arm_load (o := ⟨some 5, _, _, _, _, _⟩) rfl _ _ rfl X 0 rfl (u8s x) ((Has.refl _).range (hw1.old nw2.below)) (szH K.out) ?_))
    | ((with_reducible refine at_slot 6 ?_); (refine arm_build (o := ⟨some 6, _, _, _, _, _⟩) rfl _ _ rfl (dcs d) (by simp only [List.map_toArray, List.map_cons, List.map_nil]; exact B1.out) ?_))
    | ((with_reducible refine at_slot 7 ?_); (refine arm_build (o := ⟨some 7, _, _, _, _, _⟩) rfl _ _ rfl (pcs d d) (by simp only [List.map_toArray, List.map_cons, List.map_nil]; exact B2.out) ?_))
    | ((with_reducible refine arm_store (o := ⟨none, _, _, _, _, _⟩) rfl _ _ _ rfl R 0 rfl (pcs d d) rfl _ _ (hw2) (fitP KD.out KD.out) (pcs_one _ _) (sz_rpair KD.out KD.out) ?_); intro w5 hw5 ow5 sw5))
  have e1 := Xe.out; have e2 := Re.out; have s1 := nw1.size; have s2 := nw2.size
  have bel : Below w.heap.size w w2 := below_step nw1.below (by omega) nw2.below
  exact bodyPost_ret (v := .agg (pcs d d).toArray) (result_row (p := 2) (ty := 37) (u := 37) (by kernel_rfl) _ _ R (pcs d d) rfl (hw5.congr (allP KD.out KD.out)) (sz_rpair KD.out KD.out)) rfl ⟨rfl, below_only bel ow5 (by omega) bel.size⟩
set_option maxHeartbeats 4000000 in
set_option maxRecDepth 100000 in
theorem own_any (c d : Dat) (w : World) (l : c.Ok) (k : d.Ok) :
    Calls Tryd.prog 10 #[.agg (pcs c d).toArray] w fun e w' => e = .returned (.agg (pcs c d).toArray) ∧ Below w.heap.size w w' := by
  have K := Lib.hid k; have KC := Lib.hid l
  have B2 := Lib.hid (built_rpair l k)
  clear l k
  go_enter Tryd.func10, Tryd.ntmps10
  go_wp2_with (first
    | ((with_reducible refine at_slot 1 ?_); (refine arm_box (o := ⟨some 1, _, _, _, _, _⟩) rfl _ _ rfl (pcs c d) rfl ?_); intro X w1 Xe hw1 nw1)
    | ((with_reducible refine at_slot 2 ?_); (refine arm_alloc (o := ⟨some 2, _, _, _, _, _⟩) rfl _ rfl (pcs zd zd) z_rpair ?_); intro R w2 Re hw2 nw2)
    | ((with_reducible refine at_slot 4 ?_); (refine arm_load (o := ⟨some 4, _, _, _, _, _⟩) rfl _ _ rfl X 0 rfl (dcs c) ((p_now (Has.refl (pcs c d))).range (hw1.old nw2.below)) (sz_dat KC.out) ?_))
    | ((with_reducible refine at_slot 6 ?_); (refine arm_load (o := ⟨some 6, _, _, _, _, _⟩) rfl _ _ rfl X 129 rfl (dcs d) ((show Has (pcs c d) 129 (dcs d) from p_next KC.out (Has.refl _)).range (hw1.old nw2.below)) (sz_dat K.out) ?_))
    | ((with_reducible refine at_slot 7 ?_); (refine arm_build (o := ⟨some 7, _, _, _, _, _⟩) rfl _ _ rfl (pcs c d) (by simp only [List.map_toArray, List.map_cons, List.map_nil]; exact B2.out) ?_))
    | ((with_reducible refine arm_store (o := ⟨none, _, _, _, _, _⟩) rfl _ _ _ rfl R 0 rfl (pcs c d) rfl _ _ (hw2) (fitP KC.out K.out) (pcs_one _ _) (sz_rpair KC.out K.out) ?_); intro w5 hw5 ow5 sw5))
  have e1 := Xe.out; have e2 := Re.out; have s1 := nw1.size; have s2 := nw2.size
  have bel : Below w.heap.size w w2 := below_step nw1.below (by omega) nw2.below
  exact bodyPost_ret (v := .agg (pcs c d).toArray) (result_row (p := 2) (ty := 37) (u := 37) (by kernel_rfl) _ _ R (pcs c d) rfl (hw5.congr (allP KC.out K.out)) (sz_rpair KC.out K.out)) rfl ⟨rfl, below_only bel ow5 (by omega) bel.size⟩
set_option maxHeartbeats 4000000 in
set_option maxRecDepth 100000 in
theorem rfollow_slot (cc dd : Dat) (b : Blk) (w : World) (l : cc.Ok) (k : dd.Ok) (j : b.Ok) (h : b.to ≤ b.fro) :
    Calls Tryd.prog 9 #[.agg (pcs cc dd).toArray, .agg (bcs b).toArray] w fun e w' => e = .returned (.tuple #[.agg (pcs zd zd).toArray, .int .i64 6]) ∧ Below w.heap.size w w' := by
  have hle : ((b.to : Nat) : Int) ≤ ((b.fro : Nat) : Int) := by omega
  clear l k j h
  go_enter Tryd.func9, Tryd.ntmps9
  go_wp2_with (first
    | ((with_reducible refine at_slot 2 ?_); (refine arm_box (o := ⟨some 2, _, _, _, _, _⟩) rfl _ _ rfl (pcs cc dd) rfl ?_); intro Q w1 Qe hw1 nw1)
    | ((with_reducible refine at_slot 3 ?_); (refine arm_box (o := ⟨some 3, _, _, _, _, _⟩) rfl _ _ rfl (bcs b) rfl ?_); intro X w2 Xe hw2 nw2)
    | ((with_reducible refine at_slot 4 ?_); (refine arm_alloc (o := ⟨some 4, _, _, _, _, _⟩) rfl _ rfl (pcs zd zd) z_rpair ?_); intro R w3 Re hw3 nw3; have c0 := (hw2.old nw3.below).cell (b_fro (Has.refl (bcs b))).get; have c1 := (hw2.old nw3.below).cell (show Has (bcs b) 1 [num32 b.to] from b_to (Has.refl (bcs b))).get; simp only [num32] at c0 c1)
    | ((with_reducible refine at_slot 12 ?_); (refine arm_build (o := ⟨some 12, _, _, _, _, _⟩) rfl _ _ rfl (pcs zd zd) built_rpair0 ?_))
    | ((with_reducible refine arm_store (o := ⟨none, _, _, _, _, _⟩) rfl _ _ _ rfl R 0 rfl (pcs zd zd) rfl _ _ (hw3) (fitP zd_ok zd_ok) (pcs_one _ _) (sz_rpair zd_ok zd_ok) ?_); intro w5 hw5 ow5 sw5))
  have e1 := Qe.out; have e2 := Xe.out; have e3 := Re.out
  have s1 := nw1.size; have s2 := nw2.size; have s3 := nw3.size
  have bel : Below w.heap.size w w3 := below_step (below_step nw1.below (by omega) nw2.below) (by omega) nw3.below
  exact bodyPost_ret (v := .tuple #[.agg (pcs zd zd).toArray, .int .i64 6]) (result_row2 (p := 4) (u := 5) (ty := 37) (t := 37) (by kernel_rfl) _ _ R (pcs zd zd) (.int .i64 6) rfl rfl (hw5.congr (allP zd_ok zd_ok)) (sz_rpair zd_ok zd_ok)) rfl ⟨rfl, below_only bel ow5 (by omega) bel.size⟩
set_option maxHeartbeats 4000000 in
set_option maxRecDepth 100000 in
theorem rfollow_over (cc dd : Dat) (b : Blk) (w : World) (l : cc.Ok) (k : dd.Ok) (j : b.Ok) (h : b.fro < b.to) (ht : ¬ b.fro / 24 < b.to / 24) (hf : dd.len = 4294967295) :
    Calls Tryd.prog 9 #[.agg (pcs cc dd).toArray, .agg (bcs b).toArray] w fun e w' => e = .returned (.tuple #[.agg (pcs zd zd).toArray, .int .i64 5]) ∧ Below w.heap.size w w' := by
  have hle : ((b.fro : Nat) : Int) < ((b.to : Nat) : Int) := by omega
  have K := Lib.hid k; have KC := Lib.hid l; have J := Lib.hid j
  have HNE : Hid ((((b.to / 24 : Nat) : Int) == ((b.fro / 24 : Nat) : Int)) = true) := Lib.hid (by
    have : b.to / 24 = b.fro / 24 := by omega
    rw [this]; exact beq_self_eq_true _)
  have HF := Lib.hid hf
  clear hf ht
  clear l k j
  go_enter Tryd.func9, Tryd.ntmps9
  go_wp2_with (first
    | ((with_reducible refine at_slot 2 ?_); (refine arm_box (o := ⟨some 2, _, _, _, _, _⟩) rfl _ _ rfl (pcs cc dd) rfl ?_); intro Q w1 Qe hw1 nw1)
    | ((with_reducible refine at_slot 3 ?_); (refine arm_box (o := ⟨some 3, _, _, _, _, _⟩) rfl _ _ rfl (bcs b) rfl ?_); intro X w2 Xe hw2 nw2)
    | ((with_reducible refine at_slot 4 ?_); (refine arm_alloc (o := ⟨some 4, _, _, _, _, _⟩) rfl _ rfl (pcs zd zd) z_rpair ?_); intro R w3 Re hw3 nw3; have c0 := (hw2.old nw3.below).cell (b_fro (Has.refl (bcs b))).get; have c1 := (hw2.old nw3.below).cell (show Has (bcs b) 1 [num32 b.to] from b_to (Has.refl (bcs b))).get; simp only [num32] at c0 c1)
    | ((with_reducible refine at_slot 13 ?_); (refine arm_load (o := ⟨some 13, _, _, _, _, _⟩) rfl _ _ rfl Q 0 rfl (pcs cc dd) ((Has.refl _).range ((hw1.old nw2.below).old nw3.below)) (sz_rpair KC.out K.out) ?_))
    | ((with_reducible refine at_slot 6 ?_); (refine arm_alloc (o := ⟨some 6, _, _, _, _, _⟩) rfl _ rfl (pcs zd zd) z_rpair ?_); intro V w4 Ve hw4 nw4)
    | ((with_reducible refine arm_store (o := ⟨none, _, _, _, _, _⟩) rfl _ _ _ rfl V 0 rfl (pcs cc dd) rfl _ _ (hw4) (fitP KC.out K.out) (pcs_one _ _) (sz_rpair KC.out K.out) ?_); intro w5 hw5 ow5 sw5))
  have e1 := Qe.out; have e2 := Xe.out; have e3 := Re.out; have e4 := Ve.out
  have s1 := nw1.size; have s2 := nw2.size; have s3 := nw3.size; have s4 := nw4.size; have s5 := sw5.out
  have lR : w.heap.size ≤ R := by omega
  have lV : w.heap.size ≤ V := by omega
  have hRV : R ≠ V := by omega
  have hQV : Q ≠ V := by omega
  have hXV : X ≠ V := by omega
  have rV := hw5.congr (allP KC.out K.out)
  have rQ := (((hw1.old nw2.below).old nw3.below).old nw4.below).only ow5 hQV
  have rX := ((hw2.old nw3.below).old nw4.below).only ow5 hXV
  have rR := (hw3.old nw4.below).only ow5 hRV
  have bel : Below w.heap.size w w5 := below_only (below_step (below_step (below_step nw1.below (by omega) nw2.below) (by omega) nw3.below) (by omega) nw4.below) ow5 lV (by omega)
  clear e1 e2 e3 e4 s1 s2 s3 s4 s5 Qe Xe Re Ve hw1 nw1 hw2 nw2 hw3 nw3 hw4 nw4 hw5 ow5 sw5 c0 c1
  refine wp_region_quiet (C := fun w' => Below w5.heap.size w5 w') (by kernel_rfl) (by kernel_rfl) ((Below.refl _ _).drew) ?_
  rw [List.toList_toArray]
  refine q_value 14 rfl (.pointer (some ⟨X, 1, none⟩)) (by kernel_rfl) (fun w' _ => by kernel_rfl) ?_
  simp only [Act.put, List.setIfInBounds_toArray, List.set_cons_zero, List.set_cons_succ]
  refine q_value 15 rfl (num32 b.to) (by kernel_rfl) (fun w' hC => run_op_load1 _ _ rfl (.int .u32) (by kernel_rfl) rfl ⟨X, 1, none⟩ rfl (num32 b.to) ((rX.old hC).cell (show Has (bcs b) 1 [num32 b.to] from b_to (Has.refl (bcs b))).get)) ?_
  simp only [Act.put, List.setIfInBounds_toArray, List.set_cons_zero, List.set_cons_succ]
  refine q_call 16 rfl (num32 (b.to / 24)) 14 #[num32 b.to] (by kernel_rfl) (fun w' _ => run_op_call _ _ _ rfl _ (by simp only [List.map_toArray, List.map_cons, List.map_nil]; rfl) Tryd.func14 (by kernel_rfl) (by kernel_rfl) w') (fun w' hC => (Slot.repoch_nat b.to w' J.out.to).mono fun e w'' h => ⟨h.1, h.2 ▸ hC⟩) ?_
  simp only [Act.put, List.setIfInBounds_toArray, List.set_cons_zero, List.set_cons_succ]
  refine q_value 17 rfl (.pointer (some ⟨X, 0, none⟩)) (by kernel_rfl) (fun w' _ => by kernel_rfl) ?_
  simp only [Act.put, List.setIfInBounds_toArray, List.set_cons_zero, List.set_cons_succ]
  refine q_value 18 rfl (num32 b.fro) (by kernel_rfl) (fun w' hC => run_op_load1 _ _ rfl (.int .u32) (by kernel_rfl) rfl ⟨X, 0, none⟩ rfl (num32 b.fro) ((rX.old hC).cell (b_fro (Has.refl (bcs b))).get)) ?_
  simp only [Act.put, List.setIfInBounds_toArray, List.set_cons_zero, List.set_cons_succ]
  refine q_call 19 rfl (num32 (b.fro / 24)) 14 #[num32 b.fro] (by kernel_rfl) (fun w' _ => run_op_call _ _ _ rfl _ (by simp only [List.map_toArray, List.map_cons, List.map_nil]; rfl) Tryd.func14 (by kernel_rfl) (by kernel_rfl) w') (fun w' hC => (Slot.repoch_nat b.fro w' J.out.fro).mono fun e w'' h => ⟨h.1, h.2 ▸ hC⟩) ?_
  simp only [Act.put, List.setIfInBounds_toArray, List.set_cons_zero, List.set_cons_succ]
  refine q_value 20 rfl (.bool false) (by kernel_rfl) (fun w' _ => by rw [show (Value.bool false) = .bool (!(((b.to / 24 : Nat) : Int) == ((b.fro / 24 : Nat) : Int))) by rw [HNE.out]; rfl]; exact run_op_neqI _ _ .u32 (by kernel_rfl) _ _ rfl .u32 _ _ rfl rfl w') ?_
  simp only [Act.put, List.setIfInBounds_toArray, List.set_cons_zero, List.set_cons_succ]
  refine wpQuiet_nil ?_
  intro w6 hC
  have rV6 := rV.old hC; have rQ6 := rQ.old hC; have rX6 := rX.old hC; have rR6 := rR.old hC
  have bel6 : Below w.heap.size w w6 := below_step bel bel.size hC
  clear hC rV rQ rX rR bel
  have c2 : w6.cell? ⟨Q, 257, none⟩ = some (.int .u32 4294967295) := by
    have := rQ6.cell (show Has (pcs cc dd) 257 [num32 dd.len] from d_len K.out (p_next KC.out (Has.refl _))).get
    rw [HF.out] at this
    exact this
  go_wp2_with (first
    | ((with_reducible refine at_slot 37 ?_); (refine arm_build (o := ⟨some 37, _, _, _, _, _⟩) rfl _ _ rfl (pcs zd zd) built_rpair0 ?_))
    | ((with_reducible refine arm_store (o := ⟨none, _, _, _, _, _⟩) rfl _ _ _ rfl R 0 rfl (pcs zd zd) rfl _ _ (rR6) (fitP zd_ok zd_ok) (pcs_one _ _) (sz_rpair zd_ok zd_ok) ?_); intro w7 hw7 ow7 sw7))
  exact bodyPost_ret (v := .tuple #[.agg (pcs zd zd).toArray, .int .i64 5]) (result_row2 (p := 4) (u := 5) (ty := 37) (t := 37) (by kernel_rfl) _ _ R (pcs zd zd) (.int .i64 5) rfl rfl (hw7.congr (allP zd_ok zd_ok)) (sz_rpair zd_ok zd_ok)) rfl ⟨rfl, below_only bel6 ow7 lR bel6.size⟩
set_option maxHeartbeats 4000000 in
set_option maxRecDepth 100000 in
theorem rfollow_turn (cc dd : Dat) (b : Blk) (w : World) (l : cc.Ok) (k : dd.Ok) (j : b.Ok) (hk : w.rangeAt 0 0 (u32s ks)) (h : b.fro < b.to) (ht : b.fro / 24 < b.to / 24) :
    Calls Tryd.prog 9 #[.agg (pcs cc dd).toArray, .agg (bcs b).toArray] w fun e w' => e = .returned (.tuple #[.agg (pcs dd (lockd (turnD dd b) b)).toArray, .int .i64 0]) ∧ Below w.heap.size w w' := by
  have KE0 := Lib.hid (turn_ok k j)
  have B4 := Lib.hid (built_rdat4 j.led k.seed j.prev)
  have hk1 : 0 < w.heap.size := range_lt hk (by simp [u32s, ks])
  have HK := Lib.hid hk
  obtain ⟨e, he⟩ : ∃ e : Dat, e = turnD dd b := ⟨_, rfl⟩
  rw [show Dat.mk b.led dd.seed b.prev zh 1 = e from he.symm] at B4
  rw [← he] at KE0 ⊢
  clear he hk
  have hle : ((b.fro : Nat) : Int) < ((b.to : Nat) : Int) := by omega
  have K := Lib.hid k; have KC := Lib.hid l; have J := Lib.hid j
  have HNE : Hid ((((b.to / 24 : Nat) : Int) == ((b.fro / 24 : Nat) : Int)) = false) := Lib.hid (beq_eq_false_iff_ne.2 (by omega))
  clear ht h
  clear l k j
  go_enter Tryd.func9, Tryd.ntmps9
  go_wp2_with (first
    | ((with_reducible refine at_slot 2 ?_); (refine arm_box (o := ⟨some 2, _, _, _, _, _⟩) rfl _ _ rfl (pcs cc dd) rfl ?_); intro Q w1 Qe hw1 nw1)
    | ((with_reducible refine at_slot 3 ?_); (refine arm_box (o := ⟨some 3, _, _, _, _, _⟩) rfl _ _ rfl (bcs b) rfl ?_); intro X w2 Xe hw2 nw2)
    | ((with_reducible refine at_slot 4 ?_); (refine arm_alloc (o := ⟨some 4, _, _, _, _, _⟩) rfl _ rfl (pcs zd zd) z_rpair ?_); intro R w3 Re hw3 nw3; have c0 := (hw2.old nw3.below).cell (b_fro (Has.refl (bcs b))).get; have c1 := (hw2.old nw3.below).cell (show Has (bcs b) 1 [num32 b.to] from b_to (Has.refl (bcs b))).get; simp only [num32] at c0 c1)
    | ((with_reducible refine at_slot 13 ?_); (refine arm_load (o := ⟨some 13, _, _, _, _, _⟩) rfl _ _ rfl Q 0 rfl (pcs cc dd) ((Has.refl _).range ((hw1.old nw2.below).old nw3.below)) (sz_rpair KC.out K.out) ?_))
    | ((with_reducible refine at_slot 6 ?_); (refine arm_alloc (o := ⟨some 6, _, _, _, _, _⟩) rfl _ rfl (pcs zd zd) z_rpair ?_); intro V w4 Ve hw4 nw4)
    | ((with_reducible refine arm_store (o := ⟨none, _, _, _, _, _⟩) rfl _ _ _ rfl V 0 rfl (pcs cc dd) rfl _ _ (hw4) (fitP KC.out K.out) (pcs_one _ _) (sz_rpair KC.out K.out) ?_); intro w5 hw5 ow5 sw5))
  have e1 := Qe.out; have e2 := Xe.out; have e3 := Re.out; have e4 := Ve.out
  have s1 := nw1.size; have s2 := nw2.size; have s3 := nw3.size; have s4 := nw4.size; have s5 := sw5.out
  have lR : w.heap.size ≤ R := by omega
  have lV : w.heap.size ≤ V := by omega
  have hRV : R ≠ V := by omega
  have hQV : Q ≠ V := by omega
  have hXV : X ≠ V := by omega
  have rV := hw5.congr (allP KC.out K.out)
  have rQ := (((hw1.old nw2.below).old nw3.below).old nw4.below).only ow5 hQV
  have rX := ((hw2.old nw3.below).old nw4.below).only ow5 hXV
  have rR := (hw3.old nw4.below).only ow5 hRV
  have bel : Below w.heap.size w w5 := below_only (below_step (below_step (below_step nw1.below (by omega) nw2.below) (by omega) nw3.below) (by omega) nw4.below) ow5 lV (by omega)
  clear e1 e2 e3 e4 s1 s2 s3 s4 s5 Qe Xe Re Ve hw1 nw1 hw2 nw2 hw3 nw3 hw4 nw4 hw5 ow5 sw5 c0 c1
  refine wp_region_quiet (C := fun w' => Below w5.heap.size w5 w') (by kernel_rfl) (by kernel_rfl) ((Below.refl _ _).drew) ?_
  rw [List.toList_toArray]
  refine q_value 14 rfl (.pointer (some ⟨X, 1, none⟩)) (by kernel_rfl) (fun w' _ => by kernel_rfl) ?_
  simp only [Act.put, List.setIfInBounds_toArray, List.set_cons_zero, List.set_cons_succ]
  refine q_value 15 rfl (num32 b.to) (by kernel_rfl) (fun w' hC => run_op_load1 _ _ rfl (.int .u32) (by kernel_rfl) rfl ⟨X, 1, none⟩ rfl (num32 b.to) ((rX.old hC).cell (show Has (bcs b) 1 [num32 b.to] from b_to (Has.refl (bcs b))).get)) ?_
  simp only [Act.put, List.setIfInBounds_toArray, List.set_cons_zero, List.set_cons_succ]
  refine q_call 16 rfl (num32 (b.to / 24)) 14 #[num32 b.to] (by kernel_rfl) (fun w' _ => run_op_call _ _ _ rfl _ (by simp only [List.map_toArray, List.map_cons, List.map_nil]; rfl) Tryd.func14 (by kernel_rfl) (by kernel_rfl) w') (fun w' hC => (Slot.repoch_nat b.to w' J.out.to).mono fun e w'' h => ⟨h.1, h.2 ▸ hC⟩) ?_
  simp only [Act.put, List.setIfInBounds_toArray, List.set_cons_zero, List.set_cons_succ]
  refine q_value 17 rfl (.pointer (some ⟨X, 0, none⟩)) (by kernel_rfl) (fun w' _ => by kernel_rfl) ?_
  simp only [Act.put, List.setIfInBounds_toArray, List.set_cons_zero, List.set_cons_succ]
  refine q_value 18 rfl (num32 b.fro) (by kernel_rfl) (fun w' hC => run_op_load1 _ _ rfl (.int .u32) (by kernel_rfl) rfl ⟨X, 0, none⟩ rfl (num32 b.fro) ((rX.old hC).cell (b_fro (Has.refl (bcs b))).get)) ?_
  simp only [Act.put, List.setIfInBounds_toArray, List.set_cons_zero, List.set_cons_succ]
  refine q_call 19 rfl (num32 (b.fro / 24)) 14 #[num32 b.fro] (by kernel_rfl) (fun w' _ => run_op_call _ _ _ rfl _ (by simp only [List.map_toArray, List.map_cons, List.map_nil]; rfl) Tryd.func14 (by kernel_rfl) (by kernel_rfl) w') (fun w' hC => (Slot.repoch_nat b.fro w' J.out.fro).mono fun e w'' h => ⟨h.1, h.2 ▸ hC⟩) ?_
  simp only [Act.put, List.setIfInBounds_toArray, List.set_cons_zero, List.set_cons_succ]
  refine q_value 20 rfl (.bool true) (by kernel_rfl) (fun w' _ => by rw [show (Value.bool true) = .bool (!(((b.to / 24 : Nat) : Int) == ((b.fro / 24 : Nat) : Int))) by rw [HNE.out]; rfl]; exact run_op_neqI _ _ .u32 (by kernel_rfl) _ _ rfl .u32 _ _ rfl rfl w') ?_
  simp only [Act.put, List.setIfInBounds_toArray, List.set_cons_zero, List.set_cons_succ]
  refine wpQuiet_nil ?_
  intro w6 hC
  have rV6 := rV.old hC; have rQ6 := rQ.old hC; have rX6 := rX.old hC; have rR6 := rR.old hC
  have bel6 : Below w.heap.size w w6 := below_step bel bel.size hC
  clear hC rV rQ rX rR bel
  have M1 := Lib.hid (lay_now (c := dd) KC.out K.out)
  have M2 := Lib.hid (lay_next K.out K.out KE0.out)
  have G1 := Lib.hid (show 0 + (dcs dd).length ≤ (pcs cc dd).length by rw [dcs_len K.out, pcs_len KC.out K.out]; omega)
  have G2 := Lib.hid (show 129 + (dcs e).length ≤ (pcs dd dd).length by rw [dcs_len KE0.out, pcs_len K.out K.out]; omega)
  go_wp2_with (first
    | ((with_reducible refine at_slot 22 ?_); (refine arm_load (o := ⟨some 22, _, _, _, _, _⟩) rfl _ _ rfl Q 129 rfl (dcs dd) ((show Has (pcs cc dd) 129 (dcs dd) from p_next KC.out (Has.refl _)).range rQ6) (sz_rdat K.out) ?_))
    | ((with_reducible refine arm_store (o := ⟨none, _, _, _, _, _⟩) rfl _ _ _ rfl V 0 rfl (dcs dd) rfl _ _ (rV6) G1.out (dcs_one _) (sz_rdat K.out) ?_); intro v8 hv8 ov8 sv8)
    | ((with_reducible refine at_slot 25 ?_); (refine arm_load (o := ⟨some 25, _, _, _, _, _⟩) rfl _ _ rfl X 34 rfl (u8s b.led) ((show Has (bcs b) 34 (u8s b.led) from b_led J.out (Has.refl _)).range (rX6.only ov8 hXV)) (szH J.out.led) ?_))
    | ((with_reducible refine at_slot 28 ?_); (refine arm_load (o := ⟨some 28, _, _, _, _, _⟩) rfl _ _ rfl Q 161 rfl (u8s dd.seed) ((show Has (pcs cc dd) 161 (u8s dd.seed) from d_seed K.out (p_next KC.out (Has.refl _))).range (rQ6.only ov8 hQV)) (szH K.out.seed) ?_))
    | ((with_reducible refine at_slot 30 ?_); (refine arm_load (o := ⟨some 30, _, _, _, _, _⟩) rfl _ _ rfl X 2 rfl (u8s b.prev) ((show Has (bcs b) 2 (u8s b.prev) from b_prev (Has.refl _)).range (rX6.only ov8 hXV)) (szH J.out.prev) ?_))
    | ((with_reducible refine at_slot 31 ?_); (refine arm_build (o := ⟨some 31, _, _, _, _, _⟩) rfl _ _ rfl (dcs e) (by simp only [List.map_toArray, List.map_cons, List.map_nil]; exact B4.out) ?_))
    | ((with_reducible refine arm_store (o := ⟨none, _, _, _, _, _⟩) rfl _ _ _ rfl V 129 rfl (dcs e) rfl _ _ (hv8.congr M1.out) G2.out (dcs_one _) (sz_rdat KE0.out) ?_); intro v9 hv9 ov9 sv9; have c1 := ((rX6.only ov8 hXV).only ov9 hXV).cell (show Has (bcs b) 1 [num32 b.to] from b_to (Has.refl (bcs b))).get; simp only [num32] at c1))
  have rV9 := hv9.congr M2.out; have rX9 := (rX6.only ov8 hXV).only ov9 hXV; have rR9 := (rR6.only ov8 hRV).only ov9 hRV
  have bel9 : Below w.heap.size w v9 := below_only (below_only bel6 ov8 lV bel6.size) ov9 lV (by have := bel6.size; have := sv8.out; omega)
  clear hv8 ov8 sv8 hv9 ov9 sv9 c1 rV6 rX6 rR6 rQ6 bel6 M1 M2 G1 G2
  refine (Slot.rlocking_nat b.to _ J.out.to).mono ?_
  rintro e0 y ⟨rfl, rfl⟩
  by_cases hl : b.to % 24 < 16
  · have LD := Lib.hid (lockd_yes (d := e) hl)
    rw [decide_eq_true hl]
    clear hl
    go_wp2_with (first
      | ((with_reducible refine at_slot 49 ?_); (refine arm_load (o := ⟨some 49, _, _, _, _, _⟩) rfl _ _ rfl V 161 rfl (u8s e.seed) ((show Has (pcs dd e) 161 (u8s e.seed) from d_seed KE0.out (p_next K.out (Has.refl _))).range rV9) (szH KE0.out.seed) ?_))
      | ((with_reducible refine at_slot 51 ?_); (refine arm_load (o := ⟨some 51, _, _, _, _, _⟩) rfl _ _ rfl X 66 rfl (u8s b.draw) ((show Has (bcs b) 66 (u8s b.draw) from b_draw J.out (Has.refl _)).range rX9) (szH J.out.draw) ?_)))
    refine (rseed_any e.seed b.draw _ KE0.out.seed J.out.draw (range_block HK.out (bel9.block _ hk1))).mono ?_
    rintro e0 y1 ⟨rfl, hB⟩
    have rV7 := rV9.old hB; have rX7 := rX9.old hB; have rR7 := rR9.old hB
    have bel7 : Below w.heap.size w y1 := below_step bel9 bel9.size hB
    obtain ⟨sd, hsd⟩ : ∃ sd, sd = seedN e.seed b.draw := ⟨_, rfl⟩
    have HSD := Lib.hid hsd
    have KD := Lib.hid (show H32 sd by rw [hsd]; exact seed_ok _ _)
    rw [← hsd]
    obtain ⟨e1, he1⟩ : ∃ e1 : Dat, e1 = ⟨e.led, sd, e.start, e.lock, e.len⟩ := ⟨_, rfl⟩
    obtain ⟨e2, he2⟩ : ∃ e2 : Dat, e2 = ⟨e.led, sd, e.start, b.prev, e.len⟩ := ⟨_, rfl⟩
    have K1 := Lib.hid (show e1.Ok by rw [he1]; exact ⟨KE0.out.led, KD.out, KE0.out.start, KE0.out.lock, KE0.out.len⟩)
    have K2 := Lib.hid (show e2.Ok by rw [he2]; exact ⟨KE0.out.led, KD.out, KE0.out.start, J.out.prev, KE0.out.len⟩)
    have M1 := Lib.hid (show lay (pcs dd e) 161 (u8s sd) = pcs dd e1 by rw [he1]; exact lay_nseed K.out KE0.out KD.out)
    have M2 := Lib.hid (show lay (pcs dd e1) 225 (u8s b.prev) = pcs dd e2 by rw [he2]; subst he1; exact lay_nlock K.out K1.out J.out.prev)
    have G1 := Lib.hid (show 161 + (u8s sd).length ≤ (pcs dd e).length by rw [h_len KD.out, pcs_len K.out KE0.out]; omega)
    have G2 := Lib.hid (show 225 + (u8s b.prev).length ≤ (pcs dd e1).length by rw [h_len J.out.prev, pcs_len K.out K1.out]; omega)
    have EQ := Lib.hid (show lockd e b = e2 by rw [LD.out, he2, hsd]; rfl)
    clear hsd he1 he2 hB HSD LD rV9 rX9 rR9 bel9
    go_wp2_with (first
      | ((with_reducible refine arm_store (o := ⟨none, _, _, _, _, _⟩) rfl _ _ _ rfl V 161 rfl (u8s sd) rfl _ _ (rV7) G1.out (u8s_one _) (szH KD.out) ?_); intro v1 hv1 ov1 sv1)
      | ((with_reducible refine at_slot 56 ?_); (refine arm_load (o := ⟨some 56, _, _, _, _, _⟩) rfl _ _ rfl X 2 rfl (u8s b.prev) ((show Has (bcs b) 2 (u8s b.prev) from b_prev (Has.refl _)).range (rX7.only ov1 hXV)) (szH J.out.prev) ?_))
      | ((with_reducible refine arm_store (o := ⟨none, _, _, _, _, _⟩) rfl _ _ _ rfl V 225 rfl (u8s b.prev) rfl _ _ (hv1.congr M1.out) G2.out (u8s_one _) (szH J.out.prev) ?_); intro v2 hv2 ov2 sv2)
      | ((with_reducible refine at_slot 59 ?_); (refine arm_load (o := ⟨some 59, _, _, _, _, _⟩) rfl _ _ rfl V 0 rfl (pcs dd e2) ((Has.refl _).range (hv2.congr M2.out)) (sz_rpair K.out K2.out) ?_))
      | ((with_reducible refine arm_store (o := ⟨none, _, _, _, _, _⟩) rfl _ _ _ rfl R 0 rfl (pcs dd e2) rfl _ _ (((rR7.only ov1 hRV).only ov2 hRV)) (fitP K.out K2.out) (pcs_one _ _) (sz_rpair K.out K2.out) ?_); intro v3 hv3 ov3 sv3))
    have belv : Below w.heap.size w v2 := below_only (below_only bel7 ov1 lV bel7.size) ov2 lV (by have := bel7.size; have := sv1.out; omega)
    rw [EQ.out]
    exact bodyPost_ret (v := .tuple #[.agg (pcs dd e2).toArray, .int .i64 0]) (result_row2 (p := 4) (u := 5) (ty := 37) (t := 37) (by kernel_rfl) _ _ R (pcs dd e2) (.int .i64 0) rfl rfl (hv3.congr (allP K.out K2.out)) (sz_rpair K.out K2.out)) rfl ⟨rfl, below_only belv ov3 lR belv.size⟩
  · have EQ := Lib.hid (lockd_no (d := e) hl)
    rw [decide_eq_false hl]
    clear hl
    go_wp2_with (first
      | ((with_reducible refine at_slot 59 ?_); (refine arm_load (o := ⟨some 59, _, _, _, _, _⟩) rfl _ _ rfl V 0 rfl (pcs dd e) ((Has.refl _).range rV9) (sz_rpair K.out KE0.out) ?_))
      | ((with_reducible refine arm_store (o := ⟨none, _, _, _, _, _⟩) rfl _ _ _ rfl R 0 rfl (pcs dd e) rfl _ _ (rR9) (fitP K.out KE0.out) (pcs_one _ _) (sz_rpair K.out KE0.out) ?_); intro v3 hv3 ov3 sv3))
    rw [EQ.out]
    exact bodyPost_ret (v := .tuple #[.agg (pcs dd e).toArray, .int .i64 0]) (result_row2 (p := 4) (u := 5) (ty := 37) (t := 37) (by kernel_rfl) _ _ R (pcs dd e) (.int .i64 0) rfl rfl (hv3.congr (allP K.out KE0.out)) (sz_rpair K.out KE0.out)) rfl ⟨rfl, below_only bel9 ov3 lR bel9.size⟩
set_option maxHeartbeats 4000000 in
set_option maxRecDepth 100000 in
theorem rfollow_more (cc dd : Dat) (b : Blk) (w : World) (l : cc.Ok) (k : dd.Ok) (j : b.Ok) (hk : w.rangeAt 0 0 (u32s ks)) (h : b.fro < b.to) (ht : ¬ b.fro / 24 < b.to / 24) (hf : dd.len + 1 < 4294967296) :
    Calls Tryd.prog 9 #[.agg (pcs cc dd).toArray, .agg (bcs b).toArray] w fun e w' => e = .returned (.tuple #[.agg (pcs cc (lockd (moreD dd) b)).toArray, .int .i64 0]) ∧ Below w.heap.size w w' := by
  have KE0 := Lib.hid (more_ok k hf)
  have hk1 : 0 < w.heap.size := range_lt hk (by simp [u32s, ks])
  have HK := Lib.hid hk
  have M1 := Lib.hid (show (pcs cc dd).set 257 (num32 (dd.len + 1)) = pcs cc (moreD dd) from set_nlen l k _)
  obtain ⟨e, he⟩ : ∃ e : Dat, e = moreD dd := ⟨_, rfl⟩
  rw [← he] at KE0 M1 ⊢
  clear he hk
  have hle : ((b.fro : Nat) : Int) < ((b.to : Nat) : Int) := by omega
  have K := Lib.hid k; have KC := Lib.hid l; have J := Lib.hid j
  have HNE : Hid ((((b.to / 24 : Nat) : Int) == ((b.fro / 24 : Nat) : Int)) = true) := Lib.hid (by
    have : b.to / 24 = b.fro / 24 := by omega
    rw [this]; exact beq_self_eq_true _)
  clear ht h
  clear l k j
  go_enter Tryd.func9, Tryd.ntmps9
  go_wp2_with (first
    | ((with_reducible refine at_slot 2 ?_); (refine arm_box (o := ⟨some 2, _, _, _, _, _⟩) rfl _ _ rfl (pcs cc dd) rfl ?_); intro Q w1 Qe hw1 nw1)
    | ((with_reducible refine at_slot 3 ?_); (refine arm_box (o := ⟨some 3, _, _, _, _, _⟩) rfl _ _ rfl (bcs b) rfl ?_); intro X w2 Xe hw2 nw2)
    | ((with_reducible refine at_slot 4 ?_); (refine arm_alloc (o := ⟨some 4, _, _, _, _, _⟩) rfl _ rfl (pcs zd zd) z_rpair ?_); intro R w3 Re hw3 nw3; have c0 := (hw2.old nw3.below).cell (b_fro (Has.refl (bcs b))).get; have c1 := (hw2.old nw3.below).cell (show Has (bcs b) 1 [num32 b.to] from b_to (Has.refl (bcs b))).get; simp only [num32] at c0 c1)
    | ((with_reducible refine at_slot 13 ?_); (refine arm_load (o := ⟨some 13, _, _, _, _, _⟩) rfl _ _ rfl Q 0 rfl (pcs cc dd) ((Has.refl _).range ((hw1.old nw2.below).old nw3.below)) (sz_rpair KC.out K.out) ?_))
    | ((with_reducible refine at_slot 6 ?_); (refine arm_alloc (o := ⟨some 6, _, _, _, _, _⟩) rfl _ rfl (pcs zd zd) z_rpair ?_); intro V w4 Ve hw4 nw4)
    | ((with_reducible refine arm_store (o := ⟨none, _, _, _, _, _⟩) rfl _ _ _ rfl V 0 rfl (pcs cc dd) rfl _ _ (hw4) (fitP KC.out K.out) (pcs_one _ _) (sz_rpair KC.out K.out) ?_); intro w5 hw5 ow5 sw5))
  have e1 := Qe.out; have e2 := Xe.out; have e3 := Re.out; have e4 := Ve.out
  have s1 := nw1.size; have s2 := nw2.size; have s3 := nw3.size; have s4 := nw4.size; have s5 := sw5.out
  have lR : w.heap.size ≤ R := by omega
  have lV : w.heap.size ≤ V := by omega
  have hRV : R ≠ V := by omega
  have hQV : Q ≠ V := by omega
  have hXV : X ≠ V := by omega
  have rV := hw5.congr (allP KC.out K.out)
  have rQ := (((hw1.old nw2.below).old nw3.below).old nw4.below).only ow5 hQV
  have rX := ((hw2.old nw3.below).old nw4.below).only ow5 hXV
  have rR := (hw3.old nw4.below).only ow5 hRV
  have bel : Below w.heap.size w w5 := below_only (below_step (below_step (below_step nw1.below (by omega) nw2.below) (by omega) nw3.below) (by omega) nw4.below) ow5 lV (by omega)
  clear e1 e2 e3 e4 s1 s2 s3 s4 s5 Qe Xe Re Ve hw1 nw1 hw2 nw2 hw3 nw3 hw4 nw4 hw5 ow5 sw5 c0 c1
  refine wp_region_quiet (C := fun w' => Below w5.heap.size w5 w') (by kernel_rfl) (by kernel_rfl) ((Below.refl _ _).drew) ?_
  rw [List.toList_toArray]
  refine q_value 14 rfl (.pointer (some ⟨X, 1, none⟩)) (by kernel_rfl) (fun w' _ => by kernel_rfl) ?_
  simp only [Act.put, List.setIfInBounds_toArray, List.set_cons_zero, List.set_cons_succ]
  refine q_value 15 rfl (num32 b.to) (by kernel_rfl) (fun w' hC => run_op_load1 _ _ rfl (.int .u32) (by kernel_rfl) rfl ⟨X, 1, none⟩ rfl (num32 b.to) ((rX.old hC).cell (show Has (bcs b) 1 [num32 b.to] from b_to (Has.refl (bcs b))).get)) ?_
  simp only [Act.put, List.setIfInBounds_toArray, List.set_cons_zero, List.set_cons_succ]
  refine q_call 16 rfl (num32 (b.to / 24)) 14 #[num32 b.to] (by kernel_rfl) (fun w' _ => run_op_call _ _ _ rfl _ (by simp only [List.map_toArray, List.map_cons, List.map_nil]; rfl) Tryd.func14 (by kernel_rfl) (by kernel_rfl) w') (fun w' hC => (Slot.repoch_nat b.to w' J.out.to).mono fun e w'' h => ⟨h.1, h.2 ▸ hC⟩) ?_
  simp only [Act.put, List.setIfInBounds_toArray, List.set_cons_zero, List.set_cons_succ]
  refine q_value 17 rfl (.pointer (some ⟨X, 0, none⟩)) (by kernel_rfl) (fun w' _ => by kernel_rfl) ?_
  simp only [Act.put, List.setIfInBounds_toArray, List.set_cons_zero, List.set_cons_succ]
  refine q_value 18 rfl (num32 b.fro) (by kernel_rfl) (fun w' hC => run_op_load1 _ _ rfl (.int .u32) (by kernel_rfl) rfl ⟨X, 0, none⟩ rfl (num32 b.fro) ((rX.old hC).cell (b_fro (Has.refl (bcs b))).get)) ?_
  simp only [Act.put, List.setIfInBounds_toArray, List.set_cons_zero, List.set_cons_succ]
  refine q_call 19 rfl (num32 (b.fro / 24)) 14 #[num32 b.fro] (by kernel_rfl) (fun w' _ => run_op_call _ _ _ rfl _ (by simp only [List.map_toArray, List.map_cons, List.map_nil]; rfl) Tryd.func14 (by kernel_rfl) (by kernel_rfl) w') (fun w' hC => (Slot.repoch_nat b.fro w' J.out.fro).mono fun e w'' h => ⟨h.1, h.2 ▸ hC⟩) ?_
  simp only [Act.put, List.setIfInBounds_toArray, List.set_cons_zero, List.set_cons_succ]
  refine q_value 20 rfl (.bool false) (by kernel_rfl) (fun w' _ => by rw [show (Value.bool false) = .bool (!(((b.to / 24 : Nat) : Int) == ((b.fro / 24 : Nat) : Int))) by rw [HNE.out]; rfl]; exact run_op_neqI _ _ .u32 (by kernel_rfl) _ _ rfl .u32 _ _ rfl rfl w') ?_
  simp only [Act.put, List.setIfInBounds_toArray, List.set_cons_zero, List.set_cons_succ]
  refine wpQuiet_nil ?_
  intro w6 hC
  have rV6 := rV.old hC; have rQ6 := rQ.old hC; have rX6 := rX.old hC; have rR6 := rR.old hC
  have bel6 : Below w.heap.size w w6 := below_step bel bel.size hC
  clear hC rV rQ rX rR bel
  have G1 := Lib.hid (show 257 < (pcs cc dd).length by rw [pcs_len KC.out K.out]; omega)
  have c2 : w6.cell? ⟨Q, 257, none⟩ = some (.int .u32 (dd.len : Int)) := rQ6.cell (show Has (pcs cc dd) 257 [num32 dd.len] from d_len K.out (p_next KC.out (Has.refl _))).get
  have hq : ((dd.len : Int) == 4294967295) = false := beq_eq_false_iff_ne.2 (by omega)
  have hmod : ((dd.len : Int) + 1) % 4294967296 = ((dd.len + 1 : Nat) : Int) := by omega
  go_wp2_with (first
    | ((with_reducible refine arm_store1 (o := ⟨none, _, _, _, _, _⟩) rfl _ _ _ rfl V 257 rfl .u32 _ rfl (by kernel_rfl) _ _ rV6 G1.out ?_); intro v9 hv9 ov9 sv9; have c1 := (rX6.only ov9 hXV).cell (show Has (bcs b) 1 [num32 b.to] from b_to (Has.refl (bcs b))).get; simp only [num32] at c1))
  have rV9 := hv9.congr (show _ = pcs cc e by first | exact M1.out | (rw [← M1.out]; congr 1; unfold num32; congr 1; first | exact hmod | omega)); have rX9 := rX6.only ov9 hXV; have rR9 := rR6.only ov9 hRV
  have bel9 : Below w.heap.size w v9 := below_only bel6 ov9 lV bel6.size
  clear hv9 ov9 sv9 c1 c2 hq hmod rV6 rX6 rR6 rQ6 bel6 M1 G1
  refine (Slot.rlocking_nat b.to _ J.out.to).mono ?_
  rintro e0 y ⟨rfl, rfl⟩
  by_cases hl : b.to % 24 < 16
  · have LD := Lib.hid (lockd_yes (d := e) hl)
    rw [decide_eq_true hl]
    clear hl
    go_wp2_with (first
      | ((with_reducible refine at_slot 49 ?_); (refine arm_load (o := ⟨some 49, _, _, _, _, _⟩) rfl _ _ rfl V 161 rfl (u8s e.seed) ((show Has (pcs cc e) 161 (u8s e.seed) from d_seed KE0.out (p_next KC.out (Has.refl _))).range rV9) (szH KE0.out.seed) ?_))
      | ((with_reducible refine at_slot 51 ?_); (refine arm_load (o := ⟨some 51, _, _, _, _, _⟩) rfl _ _ rfl X 66 rfl (u8s b.draw) ((show Has (bcs b) 66 (u8s b.draw) from b_draw J.out (Has.refl _)).range rX9) (szH J.out.draw) ?_)))
    refine (rseed_any e.seed b.draw _ KE0.out.seed J.out.draw (range_block HK.out (bel9.block _ hk1))).mono ?_
    rintro e0 y1 ⟨rfl, hB⟩
    have rV7 := rV9.old hB; have rX7 := rX9.old hB; have rR7 := rR9.old hB
    have bel7 : Below w.heap.size w y1 := below_step bel9 bel9.size hB
    obtain ⟨sd, hsd⟩ : ∃ sd, sd = seedN e.seed b.draw := ⟨_, rfl⟩
    have HSD := Lib.hid hsd
    have KD := Lib.hid (show H32 sd by rw [hsd]; exact seed_ok _ _)
    rw [← hsd]
    obtain ⟨e1, he1⟩ : ∃ e1 : Dat, e1 = ⟨e.led, sd, e.start, e.lock, e.len⟩ := ⟨_, rfl⟩
    obtain ⟨e2, he2⟩ : ∃ e2 : Dat, e2 = ⟨e.led, sd, e.start, b.prev, e.len⟩ := ⟨_, rfl⟩
    have K1 := Lib.hid (show e1.Ok by rw [he1]; exact ⟨KE0.out.led, KD.out, KE0.out.start, KE0.out.lock, KE0.out.len⟩)
    have K2 := Lib.hid (show e2.Ok by rw [he2]; exact ⟨KE0.out.led, KD.out, KE0.out.start, J.out.prev, KE0.out.len⟩)
    have M1 := Lib.hid (show lay (pcs cc e) 161 (u8s sd) = pcs cc e1 by rw [he1]; exact lay_nseed KC.out KE0.out KD.out)
    have M2 := Lib.hid (show lay (pcs cc e1) 225 (u8s b.prev) = pcs cc e2 by rw [he2]; subst he1; exact lay_nlock KC.out K1.out J.out.prev)
    have G1 := Lib.hid (show 161 + (u8s sd).length ≤ (pcs cc e).length by rw [h_len KD.out, pcs_len KC.out KE0.out]; omega)
    have G2 := Lib.hid (show 225 + (u8s b.prev).length ≤ (pcs cc e1).length by rw [h_len J.out.prev, pcs_len KC.out K1.out]; omega)
    have EQ := Lib.hid (show lockd e b = e2 by rw [LD.out, he2, hsd]; rfl)
    clear hsd he1 he2 hB HSD LD rV9 rX9 rR9 bel9
    go_wp2_with (first
      | ((with_reducible refine arm_store (o := ⟨none, _, _, _, _, _⟩) rfl _ _ _ rfl V 161 rfl (u8s sd) rfl _ _ (rV7) G1.out (u8s_one _) (szH KD.out) ?_); intro v1 hv1 ov1 sv1)
      | ((with_reducible refine at_slot 56 ?_); (refine arm_load (o := ⟨some 56, _, _, _, _, _⟩) rfl _ _ rfl X 2 rfl (u8s b.prev) ((show Has (bcs b) 2 (u8s b.prev) from b_prev (Has.refl _)).range (rX7.only ov1 hXV)) (szH J.out.prev) ?_))
      | ((with_reducible refine arm_store (o := ⟨none, _, _, _, _, _⟩) rfl _ _ _ rfl V 225 rfl (u8s b.prev) rfl _ _ (hv1.congr M1.out) G2.out (u8s_one _) (szH J.out.prev) ?_); intro v2 hv2 ov2 sv2)
      | ((with_reducible refine at_slot 59 ?_); (refine arm_load (o := ⟨some 59, _, _, _, _, _⟩) rfl _ _ rfl V 0 rfl (pcs cc e2) ((Has.refl _).range (hv2.congr M2.out)) (sz_rpair KC.out K2.out) ?_))
      | ((with_reducible refine arm_store (o := ⟨none, _, _, _, _, _⟩) rfl _ _ _ rfl R 0 rfl (pcs cc e2) rfl _ _ (((rR7.only ov1 hRV).only ov2 hRV)) (fitP KC.out K2.out) (pcs_one _ _) (sz_rpair KC.out K2.out) ?_); intro v3 hv3 ov3 sv3))
    have belv : Below w.heap.size w v2 := below_only (below_only bel7 ov1 lV bel7.size) ov2 lV (by have := bel7.size; have := sv1.out; omega)
    rw [EQ.out]
    exact bodyPost_ret (v := .tuple #[.agg (pcs cc e2).toArray, .int .i64 0]) (result_row2 (p := 4) (u := 5) (ty := 37) (t := 37) (by kernel_rfl) _ _ R (pcs cc e2) (.int .i64 0) rfl rfl (hv3.congr (allP KC.out K2.out)) (sz_rpair KC.out K2.out)) rfl ⟨rfl, below_only belv ov3 lR belv.size⟩
  · have EQ := Lib.hid (lockd_no (d := e) hl)
    rw [decide_eq_false hl]
    clear hl
    go_wp2_with (first
      | ((with_reducible refine at_slot 59 ?_); (refine arm_load (o := ⟨some 59, _, _, _, _, _⟩) rfl _ _ rfl V 0 rfl (pcs cc e) ((Has.refl _).range rV9) (sz_rpair KC.out KE0.out) ?_))
      | ((with_reducible refine arm_store (o := ⟨none, _, _, _, _, _⟩) rfl _ _ _ rfl R 0 rfl (pcs cc e) rfl _ _ (rR9) (fitP KC.out KE0.out) (pcs_one _ _) (sz_rpair KC.out KE0.out) ?_); intro v3 hv3 ov3 sv3))
    rw [EQ.out]
    exact bodyPost_ret (v := .tuple #[.agg (pcs cc e).toArray, .int .i64 0]) (result_row2 (p := 4) (u := 5) (ty := 37) (t := 37) (by kernel_rfl) _ _ R (pcs cc e) (.int .i64 0) rfl rfl (hv3.congr (allP KC.out KE0.out)) (sz_rpair KC.out KE0.out)) rfl ⟨rfl, below_only bel9 ov3 lR bel9.size⟩
theorem rfollow_any (cc dd : Dat) (b : Blk) (w : World) (l : cc.Ok) (k : dd.Ok) (j : b.Ok) (hk : w.rangeAt 0 0 (u32s ks)) :
    Calls Tryd.prog 9 #[.agg (pcs cc dd).toArray, .agg (bcs b).toArray] w fun e w' => e = .returned (.tuple #[.agg (pcs (ansC cc dd b) (ansN dd b)).toArray, .int .i64 (ansE dd b)]) ∧ Below w.heap.size w w' := by
  by_cases h : b.fro < b.to
  · by_cases ho : overs dd b
    · obtain ⟨e1, e2, e3⟩ := ans_over (c := cc) h ho
      rw [e1, e2, e3]
      exact rfollow_over cc dd b w l k j h ho.1 ho.2
    · obtain ⟨e1, e2, e3⟩ := ans_ok (c := cc) h ho
      rw [e1, e2, e3]
      by_cases ht : b.fro / 24 < b.to / 24
      · obtain ⟨f1, f2⟩ := made_yes (c := cc) (d := dd) ht
        unfold nextF
        rw [f1, f2]
        exact rfollow_turn cc dd b w l k j hk h ht
      · obtain ⟨f1, f2⟩ := made_no (c := cc) (d := dd) ht
        unfold nextF
        rw [f1, f2]
        exact rfollow_more cc dd b w l k j hk h ht (by have := k.len; unfold overs at ho; omega)
  · obtain ⟨e1, e2, e3⟩ := ans_slot (c := cc) (d := dd) (b := b) (by omega)
    rw [e1, e2, e3]
    exact rfollow_slot cc dd b w l k j (by omega)
end Go.Proofs.YtijpgncecfgfdaaDoor.Ep
