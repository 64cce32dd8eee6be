/-
  The walk of layer 13's statement ChooseOne, out of the contracts: it returns true, and changes nothing that was there. Over this seat's translation.
-/
import Derived.Test.YtffpifljeeikfaaDoorChoAwake
import Derived.Test.YtffpifljeeikfaaDoorChoRight
namespace Go.Proofs.YtffpifljeeikfaaDoor.Cz
open Go.ChangeShapes Go.WideShapes Go.ChangeAt Go.RowKit Go.Proofs.YtffpifljeeikfaaDoor.Mem Go.Proofs.YtffpifljeeikfaaDoor.Bt Go.Proofs.YtffpifljeeikfaaDoor.Sa Go.Proofs.YtffpifljeeikfaaDoor.Sl
open Go.Proofs.YtffpifljeeikfaaDoor.Od (Ky kcs kcmp kval keyN keyN_ok cmpN_neg cmpN_pos sz_key)
open Go.Proofs.YtffpifljeeikfaaDoor.Lk (kS fS)
open Go.Proofs.YtffpifljeeikfaaDoor.Wn (wcs WRt)
open Go.Proofs.YtffpifljeeikfaaDoor.Ep (H32 zh zh_ok num32 Has h_len one_app one_num szH zH fitH allH)
open Go.Proofs.YtffpifljeeikfaaDoor.Sha (ks)
set_option linter.unusedVariables false
set_option linter.unusedSimpArgs false

set_option maxHeartbeats 4000000 in
set_option maxRecDepth 100000 in
theorem chooseOne_any (a b : Sta) (w : World) (ka : a.Ok) (kb : b.Ok) (hk : w.rangeAt 0 0 (u32s ks)) :
    Calls Tryd.prog 3 #[.agg (scs a).toArray, .agg (scs b).toArray] w fun e w' => e = .returned (.bool true) ∧ Below w.heap.size w w' := by
  have hk1 : 0 < w.heap.size := range_lt hk (by simp [u32s, ks])
  have HKW : Hid (∀ w', Below w.heap.size w w' → w'.rangeAt 0 0 (u32s ks)) := Lib.hid fun w' hb => range_block hk (hb.block _ hk1)
  have KA := Lib.hid ka; have KB := Lib.hid kb
  have CA := Lib.hid (fun w0 h => awake_any w0 h)
  have O2 : Hid (kS.AllOk [a, b]) := Lib.hid (allOk_cons ka (allOk_cons kb allOk_nil))
  have CRt : Hid (∀ w0 Q, At kS w0 (some ⟨Q, 0, none⟩) [a, b] → Calls Tryd.prog 7 #[.slice (some ⟨Q, 0, none⟩) 2 2] w0 fun e w' => e = .returned (.bool (decide (RtL [a, b]))) ∧ Below w0.heap.size w0 w') := Lib.hid fun w0 Q h => right13_any [a, b] (some ⟨Q, 0, none⟩) 2 w0 h (by simp [maxLen])
  clear hk hk1
  by_cases hr : RtL [a, b]
  · rw [decide_eq_true hr] at CRt
    have ra := hr.1 a (by simp); have rb := hr.1 b (by simp)
    have CD := Lib.hid (fun w0 => dens_any a b w0 ka kb ra rb)
    have CD2 := Lib.hid (fun w0 => dens_any b a w0 kb ka rb ra)
    rw [asN_swap b a] at CD2
    generalize denN a (asN a b) = x at CD CD2
    generalize denN b (asN a b) = y at CD CD2
    have N1 := Lib.hid (fun w0 => near_any a b w0 ka kb)
    have N2 := Lib.hid (fun w0 => near_any b a w0 kb ka)
    rw [show decide (nearP b a) = decide (nearP a b) from decide_eq_decide.2 near_swap] at N2
    generalize decide (nearP a b) = p at N1 N2
    have N3 := Lib.hid (fun w0 => near_any a a w0 ka ka)
    rw [decide_eq_true (near_self a)] at N3
    have WA := Lib.hid (fun w0 h => wins_any a a w0 ka ka ra ra h)
    rw [decide_eq_false (win_self a)] at WA
    have WB := Lib.hid (fun w0 h => wins_any b b w0 kb kb rb rb h)
    rw [decide_eq_false (win_self b)] at WB
    have W1 := Lib.hid (fun w0 h => wins_any a b w0 ka kb ra rb h)
    have W2 := Lib.hid (fun w0 h => wins_any b a w0 kb ka rb ra h)
    have H1 := Lib.hid (fun w0 h => shash_any a w0 ka h)
    have H2 := Lib.hid (fun w0 h => shash_any b w0 kb h)
    have HW := Lib.hid (fun h => win_one (a := a) (b := b) ka kb h)
    have K1 := Lib.hid (digS_ok a); have K2 := Lib.hid (digS_ok b)
    generalize digS a = d1 at H1 HW K1
    generalize digS b = d2 at H2 HW K2
    clear hr ka kb ra rb
    go_enter Tryd.func3, Tryd.ntmps3
    go_wp2_with (first
      | ((with_reducible refine at_slot 2 ?_); (refine arm_box (o := ⟨some 2, _, _, _, _, _⟩) rfl _ _ rfl (scs a) rfl ?_); intro A v1 Ae hv1 nv1)
      | ((with_reducible refine at_slot 3 ?_); (refine arm_box (o := ⟨some 3, _, _, _, _, _⟩) rfl _ _ rfl (scs b) rfl ?_); intro B v2 Be hv2 nv2))
    have q0 := Ae.out
    have q1 := nv1.size
    have q2 := Be.out
    have q3 := nv2.size
    have lA : w.heap.size ≤ A := by omega
    have lB : w.heap.size ≤ B := by omega
    have nAB : A ≠ B := by omega
    have nBA : B ≠ A := by omega
    have rA3 : Row v2 A 35 (scs a) := (hv1.old nv2.below)
    have rB3 : Row v2 B 35 (scs b) := hv2
    have bel3 : Below w.heap.size w v2 := (below_step (below_step (Below.refl _ _) (by omega) nv1.below) (by omega) nv2.below)
    clear q0 q1 q2 q3 Ae hv1 nv1 Be hv2 nv2
    refine (CA.out _ (HKW.out _ bel3)).mono ?_
    rintro e y4 ⟨rfl, hB⟩
    have rA4 : Row y4 A 35 (scs a) := rA3.old hB
    have rB4 : Row y4 B 35 (scs b) := rB3.old hB
    have bel4 : Below w.heap.size w y4 := below_step bel3 bel3.size hB
    clear hB rA3 rB3 bel3
    go_wp2_with (first
      | ((with_reducible refine at_slot 11 ?_); (refine arm_load (o := ⟨some 11, _, _, _, _, _⟩) rfl _ _ rfl A 0 rfl (scs a) ((show Has (scs a) 0 (scs a) from Has.refl _).range (rA4)) (sz_sta KA.out) ?_))
      | ((with_reducible refine at_slot 12 ?_); (refine arm_load (o := ⟨some 12, _, _, _, _, _⟩) rfl _ _ rfl B 0 rfl (scs b) ((show Has (scs b) 0 (scs b) from Has.refl _).range (rB4)) (sz_sta KB.out) ?_))
      | ((with_reducible refine at_slot 13 ?_); (refine arm_lit (K := kS) (o := ⟨some 13, _, _, _, _, _⟩) rfl fS [a, b] O2.out (by simp) _ _ rfl rfl (by simp only [List.map_toArray, List.map_cons, List.map_nil]; rfl) ?_); intro Q v5 Qe hv5 nv5))
    have q0 := Qe.out
    have q1 := nv5.size
    have q2 := rA4.lt
    have q3 := rB4.lt
    have q4 := bel4.size
    have lQ : w.heap.size ≤ Q := by omega
    have nAQ : A ≠ Q := by omega
    have nQA : Q ≠ A := by omega
    have nBQ : B ≠ Q := by omega
    have nQB : Q ≠ B := by omega
    have rA6 : Row v5 A 35 (scs a) := (rA4.old nv5.below)
    have rB6 : Row v5 B 35 (scs b) := (rB4.old nv5.below)
    have rQ6 : Row v5 Q kS.t (kS.all [a, b]) := hv5
    have bel6 : Below w.heap.size w v5 := (below_step bel4 (by omega) nv5.below)
    clear q0 q1 q2 q3 q4 rA4 rB4 bel4 Qe hv5 nv5
    refine (CRt.out _ Q (At.row fS O2.out rQ6 (List.append_nil _).symm)).mono ?_
    rintro e y7 ⟨rfl, hB⟩
    have rA7 : Row y7 A 35 (scs a) := rA6.old hB
    have rB7 : Row y7 B 35 (scs b) := rB6.old hB
    have rQ7 : Row y7 Q kS.t (kS.all [a, b]) := rQ6.old hB
    have bel7 : Below w.heap.size w y7 := below_step bel6 bel6.size hB
    clear hB rA6 rB6 rQ6 bel6
    clear rQ7
    go_wp2_with (first
      | ((with_reducible refine at_slot 17 ?_); (refine arm_load (o := ⟨some 17, _, _, _, _, _⟩) rfl _ _ rfl A 0 rfl (scs a) ((show Has (scs a) 0 (scs a) from Has.refl _).range (rA7)) (sz_sta KA.out) ?_))
      | ((with_reducible refine at_slot 18 ?_); (refine arm_load (o := ⟨some 18, _, _, _, _, _⟩) rfl _ _ rfl B 0 rfl (scs b) ((show Has (scs b) 0 (scs b) from Has.refl _).range (rB7)) (sz_sta KB.out) ?_)))
    refine (CD.out _).mono ?_
    rintro e y8 ⟨rfl, hB⟩
    have rA8 : Row y8 A 35 (scs a) := rA7.old hB
    have rB8 : Row y8 B 35 (scs b) := rB7.old hB
    have bel8 : Below w.heap.size w y8 := below_step bel7 bel7.size hB
    clear hB rA7 rB7 bel7
    go_wp2_with (first
      | ((with_reducible refine at_slot 23 ?_); (refine arm_load (o := ⟨some 23, _, _, _, _, _⟩) rfl _ _ rfl B 0 rfl (scs b) ((show Has (scs b) 0 (scs b) from Has.refl _).range (rB8)) (sz_sta KB.out) ?_))
      | ((with_reducible refine at_slot 24 ?_); (refine arm_load (o := ⟨some 24, _, _, _, _, _⟩) rfl _ _ rfl A 0 rfl (scs a) ((show Has (scs a) 0 (scs a) from Has.refl _).range (rA8)) (sz_sta KA.out) ?_)))
    refine (CD2.out _).mono ?_
    rintro e y9 ⟨rfl, hB⟩
    have rA9 : Row y9 A 35 (scs a) := rA8.old hB
    have rB9 : Row y9 B 35 (scs b) := rB8.old hB
    have bel9 : Below w.heap.size w y9 := below_step bel8 bel8.size hB
    clear hB rA8 rB8 bel8
    go_wp2_with fail
    go_cut [60] (fun v wx => v = .bool false ∧ Row wx A 35 (scs a) ∧ Row wx B 35 (scs b) ∧ Below w.heap.size w wx)
    case first =>
      refine wp_region_held (S := fun w' => Below y9.heap.size y9 w') (by kernel_rfl) ?_
      change wpAnyH _ _ _ _ _ _ _ _ y9.drew
      have hS : Below y9.heap.size y9 y9.drew := (Below.refl _ _).drew
      generalize y9.drew = yz at hS ⊢
      refine h_take 0 (.agg (scs a).toArray) rfl 28 rfl (by kernel_rfl) (by kernel_rfl) (by kernel_rfl) (by kernel_rfl) (fun _ _ _ h => h) (fun w' hC => run_op_load _ _ rfl A 0 rfl (scs a) ((Has.refl _).range (rA9.old hC)) (sz_sta KA.out)) hS ?_
      simp only [Act.put, List.setIfInBounds_toArray, List.set_cons_zero, List.set_cons_succ]
      refine h_take 1 (.agg (scs b).toArray) rfl 29 rfl (by kernel_rfl) (by kernel_rfl) (by kernel_rfl) (by kernel_rfl) (fun _ _ _ h => h) (fun w' hC => run_op_load _ _ rfl B 0 rfl (scs b) ((Has.refl _).range (rB9.old hC)) (sz_sta KB.out)) hS ?_
      simp only [Act.put, List.setIfInBounds_toArray, List.set_cons_zero, List.set_cons_succ]
      refine h_take 3 (.agg (scs b).toArray) rfl 31 rfl (by kernel_rfl) (by kernel_rfl) (by kernel_rfl) (by kernel_rfl) (fun _ _ _ h => h) (fun w' hC => run_op_load _ _ rfl B 0 rfl (scs b) ((Has.refl _).range (rB9.old hC)) (sz_sta KB.out)) hS ?_
      simp only [Act.put, List.setIfInBounds_toArray, List.set_cons_zero, List.set_cons_succ]
      refine h_take 4 (.agg (scs a).toArray) rfl 32 rfl (by kernel_rfl) (by kernel_rfl) (by kernel_rfl) (by kernel_rfl) (fun _ _ _ h => h) (fun w' hC => run_op_load _ _ rfl A 0 rfl (scs a) ((Has.refl _).range (rA9.old hC)) (sz_sta KA.out)) hS ?_
      simp only [Act.put, List.setIfInBounds_toArray, List.set_cons_zero, List.set_cons_succ]
      refine h_one (i := 2) (by kernel_rfl) (o_call rfl 30 rfl (by kernel_rfl) (run_op_call 9 _ _ rfl #[.agg (scs a).toArray, .agg (scs b).toArray] (by simp only [List.map_toArray, List.map_cons, List.map_nil]; rfl) Tryd.func9 (by kernel_rfl) (by kernel_rfl) _) (N1.out yz) ?_)
      rintro e yz1 ⟨rfl, hB⟩
      have hS1 : Below y9.heap.size y9 yz1 := below_step hS hS.size hB
      clear hB hS
      refine ⟨_, rfl, hS1, ?_⟩
      simp only [Act.put, List.setIfInBounds_toArray, List.set_cons_zero, List.set_cons_succ]
      refine h_one (i := 5) (by kernel_rfl) (o_call rfl 33 rfl (by kernel_rfl) (run_op_call 9 _ _ rfl #[.agg (scs b).toArray, .agg (scs a).toArray] (by simp only [List.map_toArray, List.map_cons, List.map_nil]; rfl) Tryd.func9 (by kernel_rfl) (by kernel_rfl) _) (N2.out yz1) ?_)
      rintro e yz2 ⟨rfl, hB⟩
      have hS2 : Below y9.heap.size y9 yz2 := below_step hS1 hS1.size hB
      clear hB hS1
      refine ⟨_, rfl, hS2, ?_⟩
      simp only [Act.put, List.setIfInBounds_toArray, List.set_cons_zero, List.set_cons_succ]
      refine h_take 6 (.bool false) rfl 34 rfl (by kernel_rfl) (by kernel_rfl) (by kernel_rfl) (by kernel_rfl) (fun _ _ _ h => h) (fun w' _ => run_op_neqBB _ _ _ rfl p p rfl rfl false (by cases p <;> rfl) w') hS2 ?_
      simp only [Act.put, List.setIfInBounds_toArray, List.set_cons_zero, List.set_cons_succ]
      refine h_take 7 (.bool false) rfl 35 rfl (by kernel_rfl) (by kernel_rfl) (by kernel_rfl) (by kernel_rfl) (fun _ _ _ h => h) (fun w' _ => by kernel_rfl) hS2 ?_
      simp only [Act.put, List.setIfInBounds_toArray, List.set_cons_zero, List.set_cons_succ]
      refine h_take 8 (.int .u32 (x : Int)) rfl 36 rfl (by kernel_rfl) (by kernel_rfl) (by kernel_rfl) (by kernel_rfl) (fun _ _ _ h => h) (fun w' _ => by kernel_rfl) hS2 ?_
      simp only [Act.put, List.setIfInBounds_toArray, List.set_cons_zero, List.set_cons_succ]
      refine h_take 9 (.int .u32 (x : Int)) rfl 37 rfl (by kernel_rfl) (by kernel_rfl) (by kernel_rfl) (by kernel_rfl) (fun _ _ _ h => h) (fun w' _ => by kernel_rfl) hS2 ?_
      simp only [Act.put, List.setIfInBounds_toArray, List.set_cons_zero, List.set_cons_succ]
      refine h_take 10 (.bool false) rfl 38 rfl (by kernel_rfl) (by kernel_rfl) (by kernel_rfl) (by kernel_rfl) (fun _ _ _ h => h) (fun w' _ => cmp_neq _ _ .u32 (by kernel_rfl) _ _ rfl .u32 (x : Int) (x : Int) rfl rfl false (decide_eq_true rfl) w') hS2 ?_
      simp only [Act.put, List.setIfInBounds_toArray, List.set_cons_zero, List.set_cons_succ]
      refine h_take 11 (.bool false) rfl 39 rfl (by kernel_rfl) (by kernel_rfl) (by kernel_rfl) (by kernel_rfl) (fun _ _ _ h => h) (fun w' _ => by kernel_rfl) hS2 ?_
      simp only [Act.put, List.setIfInBounds_toArray, List.set_cons_zero, List.set_cons_succ]
      refine h_take 12 (.bool false) rfl 40 rfl (by kernel_rfl) (by kernel_rfl) (by kernel_rfl) (by kernel_rfl) (fun _ _ _ h => h) (fun w' _ => by kernel_rfl) hS2 ?_
      simp only [Act.put, List.setIfInBounds_toArray, List.set_cons_zero, List.set_cons_succ]
      refine h_take 13 (.int .u32 (y : Int)) rfl 41 rfl (by kernel_rfl) (by kernel_rfl) (by kernel_rfl) (by kernel_rfl) (fun _ _ _ h => h) (fun w' _ => by kernel_rfl) hS2 ?_
      simp only [Act.put, List.setIfInBounds_toArray, List.set_cons_zero, List.set_cons_succ]
      refine h_take 14 (.int .u32 (y : Int)) rfl 42 rfl (by kernel_rfl) (by kernel_rfl) (by kernel_rfl) (by kernel_rfl) (fun _ _ _ h => h) (fun w' _ => by kernel_rfl) hS2 ?_
      simp only [Act.put, List.setIfInBounds_toArray, List.set_cons_zero, List.set_cons_succ]
      refine h_take 15 (.bool false) rfl 43 rfl (by kernel_rfl) (by kernel_rfl) (by kernel_rfl) (by kernel_rfl) (fun _ _ _ h => h) (fun w' _ => cmp_neq _ _ .u32 (by kernel_rfl) _ _ rfl .u32 (y : Int) (y : Int) rfl rfl false (decide_eq_true rfl) w') hS2 ?_
      simp only [Act.put, List.setIfInBounds_toArray, List.set_cons_zero, List.set_cons_succ]
      refine h_take 16 (.bool false) rfl 44 rfl (by kernel_rfl) (by kernel_rfl) (by kernel_rfl) (by kernel_rfl) (fun _ _ _ h => h) (fun w' _ => by kernel_rfl) hS2 ?_
      simp only [Act.put, List.setIfInBounds_toArray, List.set_cons_zero, List.set_cons_succ]
      refine h_take 17 (.bool false) rfl 45 rfl (by kernel_rfl) (by kernel_rfl) (by kernel_rfl) (by kernel_rfl) (fun _ _ _ h => h) (fun w' _ => by kernel_rfl) hS2 ?_
      simp only [Act.put, List.setIfInBounds_toArray, List.set_cons_zero, List.set_cons_succ]
      refine h_take 18 (.agg (scs a).toArray) rfl 46 rfl (by kernel_rfl) (by kernel_rfl) (by kernel_rfl) (by kernel_rfl) (fun _ _ _ h => h) (fun w' hC => run_op_load _ _ rfl A 0 rfl (scs a) ((Has.refl _).range (rA9.old hC)) (sz_sta KA.out)) hS2 ?_
      simp only [Act.put, List.setIfInBounds_toArray, List.set_cons_zero, List.set_cons_succ]
      refine h_take 19 (.agg (scs a).toArray) rfl 47 rfl (by kernel_rfl) (by kernel_rfl) (by kernel_rfl) (by kernel_rfl) (fun _ _ _ h => h) (fun w' hC => run_op_load _ _ rfl A 0 rfl (scs a) ((Has.refl _).range (rA9.old hC)) (sz_sta KA.out)) hS2 ?_
      simp only [Act.put, List.setIfInBounds_toArray, List.set_cons_zero, List.set_cons_succ]
      refine h_one (i := 20) (by kernel_rfl) (o_call rfl 48 rfl (by kernel_rfl) (run_op_call 10 _ _ rfl #[.agg (scs a).toArray, .agg (scs a).toArray] (by simp only [List.map_toArray, List.map_cons, List.map_nil]; rfl) Tryd.func10 (by kernel_rfl) (by kernel_rfl) _) (WA.out yz2 (HKW.out _ (below_step bel9 bel9.size hS2))) ?_)
      rintro e yz3 ⟨rfl, hB⟩
      have hS3 : Below y9.heap.size y9 yz3 := below_step hS2 hS2.size hB
      clear hB hS2
      refine ⟨_, rfl, hS3, ?_⟩
      simp only [Act.put, List.setIfInBounds_toArray, List.set_cons_zero, List.set_cons_succ]
      refine h_take 21 (.bool false) rfl 49 rfl (by kernel_rfl) (by kernel_rfl) (by kernel_rfl) (by kernel_rfl) (fun _ _ _ h => h) (fun w' _ => by kernel_rfl) hS3 ?_
      simp only [Act.put, List.setIfInBounds_toArray, List.set_cons_zero, List.set_cons_succ]
      refine h_take 22 (.bool false) rfl 50 rfl (by kernel_rfl) (by kernel_rfl) (by kernel_rfl) (by kernel_rfl) (fun _ _ _ h => h) (fun w' _ => by kernel_rfl) hS3 ?_
      simp only [Act.put, List.setIfInBounds_toArray, List.set_cons_zero, List.set_cons_succ]
      refine h_take 23 (.agg (scs b).toArray) rfl 51 rfl (by kernel_rfl) (by kernel_rfl) (by kernel_rfl) (by kernel_rfl) (fun _ _ _ h => h) (fun w' hC => run_op_load _ _ rfl B 0 rfl (scs b) ((Has.refl _).range (rB9.old hC)) (sz_sta KB.out)) hS3 ?_
      simp only [Act.put, List.setIfInBounds_toArray, List.set_cons_zero, List.set_cons_succ]
      refine h_take 24 (.agg (scs b).toArray) rfl 52 rfl (by kernel_rfl) (by kernel_rfl) (by kernel_rfl) (by kernel_rfl) (fun _ _ _ h => h) (fun w' hC => run_op_load _ _ rfl B 0 rfl (scs b) ((Has.refl _).range (rB9.old hC)) (sz_sta KB.out)) hS3 ?_
      simp only [Act.put, List.setIfInBounds_toArray, List.set_cons_zero, List.set_cons_succ]
      refine h_one (i := 25) (by kernel_rfl) (o_call rfl 53 rfl (by kernel_rfl) (run_op_call 10 _ _ rfl #[.agg (scs b).toArray, .agg (scs b).toArray] (by simp only [List.map_toArray, List.map_cons, List.map_nil]; rfl) Tryd.func10 (by kernel_rfl) (by kernel_rfl) _) (WB.out yz3 (HKW.out _ (below_step bel9 bel9.size hS3))) ?_)
      rintro e yz4 ⟨rfl, hB⟩
      have hS4 : Below y9.heap.size y9 yz4 := below_step hS3 hS3.size hB
      clear hB hS3
      refine ⟨_, rfl, hS4, ?_⟩
      simp only [Act.put, List.setIfInBounds_toArray, List.set_cons_zero, List.set_cons_succ]
      refine h_take 26 (.bool false) rfl 54 rfl (by kernel_rfl) (by kernel_rfl) (by kernel_rfl) (by kernel_rfl) (fun _ _ _ h => h) (fun w' _ => by kernel_rfl) hS4 ?_
      simp only [Act.put, List.setIfInBounds_toArray, List.set_cons_zero, List.set_cons_succ]
      refine h_take 27 (.bool false) rfl 55 rfl (by kernel_rfl) (by kernel_rfl) (by kernel_rfl) (by kernel_rfl) (fun _ _ _ h => h) (fun w' _ => by kernel_rfl) hS4 ?_
      simp only [Act.put, List.setIfInBounds_toArray, List.set_cons_zero, List.set_cons_succ]
      refine h_take 28 (.agg (scs a).toArray) rfl 56 rfl (by kernel_rfl) (by kernel_rfl) (by kernel_rfl) (by kernel_rfl) (fun _ _ _ h => h) (fun w' hC => run_op_load _ _ rfl A 0 rfl (scs a) ((Has.refl _).range (rA9.old hC)) (sz_sta KA.out)) hS4 ?_
      simp only [Act.put, List.setIfInBounds_toArray, List.set_cons_zero, List.set_cons_succ]
      refine h_take 29 (.agg (scs a).toArray) rfl 57 rfl (by kernel_rfl) (by kernel_rfl) (by kernel_rfl) (by kernel_rfl) (fun _ _ _ h => h) (fun w' hC => run_op_load _ _ rfl A 0 rfl (scs a) ((Has.refl _).range (rA9.old hC)) (sz_sta KA.out)) hS4 ?_
      simp only [Act.put, List.setIfInBounds_toArray, List.set_cons_zero, List.set_cons_succ]
      refine h_one (i := 30) (by kernel_rfl) (o_call rfl 58 rfl (by kernel_rfl) (run_op_call 9 _ _ rfl #[.agg (scs a).toArray, .agg (scs a).toArray] (by simp only [List.map_toArray, List.map_cons, List.map_nil]; rfl) Tryd.func9 (by kernel_rfl) (by kernel_rfl) _) (N3.out yz4) ?_)
      rintro e yz5 ⟨rfl, hB⟩
      have hS5 : Below y9.heap.size y9 yz5 := below_step hS4 hS4.size hB
      clear hB hS4
      refine ⟨_, rfl, hS5, ?_⟩
      simp only [Act.put, List.setIfInBounds_toArray, List.set_cons_zero, List.set_cons_succ]
      refine h_take 31 (.bool false) rfl 59 rfl (by kernel_rfl) (by kernel_rfl) (by kernel_rfl) (by kernel_rfl) (fun _ _ _ h => h) (fun w' _ => by kernel_rfl) hS5 ?_
      simp only [Act.put, List.setIfInBounds_toArray, List.set_cons_zero, List.set_cons_succ]
      refine h_take 32 (.bool false) rfl 60 rfl (by kernel_rfl) (by kernel_rfl) (by kernel_rfl) (by kernel_rfl) (fun _ _ _ h => h) (fun w' _ => by kernel_rfl) hS5 ?_
      simp only [Act.put, List.setIfInBounds_toArray, List.set_cons_zero, List.set_cons_succ]
      refine wpAnyH_done (by kernel_rfl) ?_ _
      go_wp2_with fail
      go_meet
      exact ⟨rfl, rA9.old hS5, rB9.old hS5, below_step bel9 bel9.size hS5⟩
    case rest =>
      obtain ⟨rfl, rA, rB, bel⟩ := hcut
      clear rA9 rB9 bel9 CD CD2 N1 N2 N3 WA WB CA CRt O2
      have HX : Hid ((winP a b ∧ ¬ winP b a) ∨ (¬ winP a b ∧ winP b a) ∨ (¬ winP a b ∧ ¬ winP b a)) := Lib.hid (by
        by_cases h : winP a b
        · exact .inl ⟨h, win_once h⟩
        · by_cases g : winP b a
          · exact .inr (.inl ⟨h, g⟩)
          · exact .inr (.inr ⟨h, g⟩))
      rcases HX.out with ⟨h, g⟩ | ⟨h, g⟩ | ⟨h, g⟩
      · rw [decide_eq_true h] at W1; rw [decide_eq_false g] at W2
        clear h g HX HW
        go_wp2_with (first
          | ((with_reducible refine at_slot 61 ?_); (refine arm_load (o := ⟨some 61, _, _, _, _, _⟩) rfl _ _ rfl A 0 rfl (scs a) ((show Has (scs a) 0 (scs a) from Has.refl _).range (rA)) (sz_sta KA.out) ?_))
          | ((with_reducible refine at_slot 62 ?_); (refine arm_load (o := ⟨some 62, _, _, _, _, _⟩) rfl _ _ rfl B 0 rfl (scs b) ((show Has (scs b) 0 (scs b) from Has.refl _).range (rB)) (sz_sta KB.out) ?_)))
        refine (W1.out _ (HKW.out _ bel)).mono ?_
        rintro e y201 ⟨rfl, hB⟩
        have rA201 : Row y201 A 35 (scs a) := rA.old hB
        have rB201 : Row y201 B 35 (scs b) := rB.old hB
        have bel201 : Below w.heap.size w y201 := below_step bel bel.size hB
        clear hB rA rB bel
        go_wp2_with (first
          | ((with_reducible refine at_slot 65 ?_); (refine arm_want (.agg (scs b).toArray) 65 rfl (by kernel_rfl) (run_op_load _ _ rfl B 0 rfl (scs b) ((show Has (scs b) 0 (scs b) from Has.refl _).range (rB201)) ((sz_sta KB.out))) ?_))
          | ((with_reducible refine at_slot 66 ?_); (refine arm_want (.agg (scs a).toArray) 66 rfl (by kernel_rfl) (run_op_load _ _ rfl A 0 rfl (scs a) ((show Has (scs a) 0 (scs a) from Has.refl _).range (rA201)) ((sz_sta KA.out))) ?_)))
        refine (W2.out _ (HKW.out _ bel201)).mono ?_
        rintro e y202 ⟨rfl, hB⟩
        have rA202 : Row y202 A 35 (scs a) := rA201.old hB
        have rB202 : Row y202 B 35 (scs b) := rB201.old hB
        have bel202 : Below w.heap.size w y202 := below_step bel201 bel201.size hB
        clear hB rA201 rB201 bel201
        go_wp2_with fail
        by_cases hab : a = b
        · have E := Lib.hid hab; clear hab
          refine wp_region_held (S := fun w' => Below y202.heap.size y202 w') (by kernel_rfl) ?_
          change wpAnyH _ _ _ _ _ _ _ _ y202.drew
          have hS : Below y202.heap.size y202 y202.drew := (Below.refl _ _).drew
          generalize y202.drew = yz at hS ⊢
          refine h_take 0 (.agg (scs a).toArray) rfl 69 rfl (by kernel_rfl) (by kernel_rfl) (by kernel_rfl) (by kernel_rfl) (fun _ _ _ h => h) (fun w' hC => run_op_load _ _ rfl A 0 rfl (scs a) ((Has.refl _).range (rA202.old hC)) (sz_sta KA.out)) hS ?_
          simp only [Act.put, List.setIfInBounds_toArray, List.set_cons_zero, List.set_cons_succ]
          refine h_take 1 (.agg (scs b).toArray) rfl 70 rfl (by kernel_rfl) (by kernel_rfl) (by kernel_rfl) (by kernel_rfl) (fun _ _ _ h => h) (fun w' hC => run_op_load _ _ rfl B 0 rfl (scs b) ((Has.refl _).range (rB202.old hC)) (sz_sta KB.out)) hS ?_
          simp only [Act.put, List.setIfInBounds_toArray, List.set_cons_zero, List.set_cons_succ]
          refine h_take 2 (.bool true) rfl 71 rfl (by kernel_rfl) (by kernel_rfl) (by kernel_rfl) (by kernel_rfl) (fun _ _ _ h => h) (fun w' _ => run_op_eqlS KA.out KB.out _ _ _ rfl rfl rfl true (Lk.same_iff KA.out KB.out ⟨fun _ => E.out, fun _ => rfl⟩) w') hS ?_
          simp only [Act.put, List.setIfInBounds_toArray, List.set_cons_zero, List.set_cons_succ]
          refine h_take 3 (.bool true) rfl 72 rfl (by kernel_rfl) (by kernel_rfl) (by kernel_rfl) (by kernel_rfl) (fun _ _ _ h => h) (fun w' _ => by kernel_rfl) hS ?_
          simp only [Act.put, List.setIfInBounds_toArray, List.set_cons_zero, List.set_cons_succ]
          refine h_pass 4 rfl 73 rfl (by kernel_rfl) (by kernel_rfl) (by kernel_rfl) (by kernel_rfl) (fun _ _ _ h => h) hS ?_
          simp only [Act.put, List.setIfInBounds_toArray, List.set_cons_zero, List.set_cons_succ]
          refine h_pass 5 rfl 74 rfl (by kernel_rfl) (by kernel_rfl) (by kernel_rfl) (by kernel_rfl) (fun _ _ _ h => h) hS ?_
          simp only [Act.put, List.setIfInBounds_toArray, List.set_cons_zero, List.set_cons_succ]
          refine h_pass 6 rfl 75 rfl (by kernel_rfl) (by kernel_rfl) (by kernel_rfl) (by kernel_rfl) (fun _ _ _ h => h) hS ?_
          simp only [Act.put, List.setIfInBounds_toArray, List.set_cons_zero, List.set_cons_succ]
          refine h_pass 7 rfl 76 rfl (by kernel_rfl) (by kernel_rfl) (by kernel_rfl) (by kernel_rfl) (fun _ _ _ h => h) hS ?_
          simp only [Act.put, List.setIfInBounds_toArray, List.set_cons_zero, List.set_cons_succ]
          refine h_pass 8 rfl 77 rfl (by kernel_rfl) (by kernel_rfl) (by kernel_rfl) (by kernel_rfl) (fun _ _ _ h => h) hS ?_
          simp only [Act.put, List.setIfInBounds_toArray, List.set_cons_zero, List.set_cons_succ]
          refine h_take 9 (.bool true) rfl 78 rfl (by kernel_rfl) (by kernel_rfl) (by kernel_rfl) (by kernel_rfl) (fun _ _ _ h => h) (fun w' _ => by kernel_rfl) hS ?_
          simp only [Act.put, List.setIfInBounds_toArray, List.set_cons_zero, List.set_cons_succ]
          refine h_take 10 (.bool true) rfl 79 rfl (by kernel_rfl) (by kernel_rfl) (by kernel_rfl) (by kernel_rfl) (fun _ _ _ h => h) (fun w' _ => by kernel_rfl) hS ?_
          simp only [Act.put, List.setIfInBounds_toArray, List.set_cons_zero, List.set_cons_succ]
          refine h_pass 11 rfl 80 rfl (by kernel_rfl) (by kernel_rfl) (by kernel_rfl) (by kernel_rfl) (fun _ _ _ h => h) hS ?_
          simp only [Act.put, List.setIfInBounds_toArray, List.set_cons_zero, List.set_cons_succ]
          refine h_pass 12 rfl 81 rfl (by kernel_rfl) (by kernel_rfl) (by kernel_rfl) (by kernel_rfl) (fun _ _ _ h => h) hS ?_
          simp only [Act.put, List.setIfInBounds_toArray, List.set_cons_zero, List.set_cons_succ]
          refine h_pass 13 rfl 82 rfl (by kernel_rfl) (by kernel_rfl) (by kernel_rfl) (by kernel_rfl) (fun _ _ _ h => h) hS ?_
          simp only [Act.put, List.setIfInBounds_toArray, List.set_cons_zero, List.set_cons_succ]
          refine h_take 14 (.bool true) rfl 83 rfl (by kernel_rfl) (by kernel_rfl) (by kernel_rfl) (by kernel_rfl) (fun _ _ _ h => h) (fun w' _ => by kernel_rfl) hS ?_
          simp only [Act.put, List.setIfInBounds_toArray, List.set_cons_zero, List.set_cons_succ]
          refine h_take 15 (.bool true) rfl 84 rfl (by kernel_rfl) (by kernel_rfl) (by kernel_rfl) (by kernel_rfl) (fun _ _ _ h => h) (fun w' _ => by kernel_rfl) hS ?_
          simp only [Act.put, List.setIfInBounds_toArray, List.set_cons_zero, List.set_cons_succ]
          refine h_pass 16 rfl 85 rfl (by kernel_rfl) (by kernel_rfl) (by kernel_rfl) (by kernel_rfl) (fun _ _ _ h => h) hS ?_
          simp only [Act.put, List.setIfInBounds_toArray, List.set_cons_zero, List.set_cons_succ]
          refine h_pass 17 rfl 86 rfl (by kernel_rfl) (by kernel_rfl) (by kernel_rfl) (by kernel_rfl) (fun _ _ _ h => h) hS ?_
          simp only [Act.put, List.setIfInBounds_toArray, List.set_cons_zero, List.set_cons_succ]
          refine h_pass 18 rfl 87 rfl (by kernel_rfl) (by kernel_rfl) (by kernel_rfl) (by kernel_rfl) (fun _ _ _ h => h) hS ?_
          simp only [Act.put, List.setIfInBounds_toArray, List.set_cons_zero, List.set_cons_succ]
          refine h_take 19 (.bool true) rfl 88 rfl (by kernel_rfl) (by kernel_rfl) (by kernel_rfl) (by kernel_rfl) (fun _ _ _ h => h) (fun w' _ => by kernel_rfl) hS ?_
          simp only [Act.put, List.setIfInBounds_toArray, List.set_cons_zero, List.set_cons_succ]
          refine h_take 20 (.bool true) rfl 4 rfl (by kernel_rfl) (by kernel_rfl) (by kernel_rfl) (by kernel_rfl) (fun _ _ _ h => h) (fun w' _ => by kernel_rfl) hS ?_
          simp only [Act.put, List.setIfInBounds_toArray, List.set_cons_zero, List.set_cons_succ]
          refine wpAnyH_done (by kernel_rfl) ?_ _
          have belE := below_step bel202 bel202.size hS
          go_wp2_with fail
          go_ret
          exact ⟨rfl, belE⟩
        · have E : Hid (¬ a = b) := Lib.hid hab; clear hab
          by_cases hd : d1 = d2
          · have HD := Lib.hid hd; clear hd
            refine wp_region_held (S := fun w' => Below y202.heap.size y202 w') (by kernel_rfl) ?_
            change wpAnyH _ _ _ _ _ _ _ _ y202.drew
            have hS : Below y202.heap.size y202 y202.drew := (Below.refl _ _).drew
            generalize y202.drew = yz at hS ⊢
            refine h_take 0 (.agg (scs a).toArray) rfl 69 rfl (by kernel_rfl) (by kernel_rfl) (by kernel_rfl) (by kernel_rfl) (fun _ _ _ h => h) (fun w' hC => run_op_load _ _ rfl A 0 rfl (scs a) ((Has.refl _).range (rA202.old hC)) (sz_sta KA.out)) hS ?_
            simp only [Act.put, List.setIfInBounds_toArray, List.set_cons_zero, List.set_cons_succ]
            refine h_take 1 (.agg (scs b).toArray) rfl 70 rfl (by kernel_rfl) (by kernel_rfl) (by kernel_rfl) (by kernel_rfl) (fun _ _ _ h => h) (fun w' hC => run_op_load _ _ rfl B 0 rfl (scs b) ((Has.refl _).range (rB202.old hC)) (sz_sta KB.out)) hS ?_
            simp only [Act.put, List.setIfInBounds_toArray, List.set_cons_zero, List.set_cons_succ]
            refine h_take 2 (.bool false) rfl 71 rfl (by kernel_rfl) (by kernel_rfl) (by kernel_rfl) (by kernel_rfl) (fun _ _ _ h => h) (fun w' _ => run_op_eqlS KA.out KB.out _ _ _ rfl rfl rfl false (Lk.same_iff KA.out KB.out ⟨fun h => absurd h Bool.false_ne_true, fun h => absurd h (show ¬ a = b from E.out)⟩) w') hS ?_
            simp only [Act.put, List.setIfInBounds_toArray, List.set_cons_zero, List.set_cons_succ]
            refine h_take 3 (.bool false) rfl 72 rfl (by kernel_rfl) (by kernel_rfl) (by kernel_rfl) (by kernel_rfl) (fun _ _ _ h => h) (fun w' _ => by kernel_rfl) hS ?_
            simp only [Act.put, List.setIfInBounds_toArray, List.set_cons_zero, List.set_cons_succ]
            refine h_take 4 (.agg (scs a).toArray) rfl 73 rfl (by kernel_rfl) (by kernel_rfl) (by kernel_rfl) (by kernel_rfl) (fun _ _ _ h => h) (fun w' hC => run_op_load _ _ rfl A 0 rfl (scs a) ((Has.refl _).range (rA202.old hC)) (sz_sta KA.out)) hS ?_
            simp only [Act.put, List.setIfInBounds_toArray, List.set_cons_zero, List.set_cons_succ]
            refine h_take 6 (.agg (scs b).toArray) rfl 75 rfl (by kernel_rfl) (by kernel_rfl) (by kernel_rfl) (by kernel_rfl) (fun _ _ _ h => h) (fun w' hC => run_op_load _ _ rfl B 0 rfl (scs b) ((Has.refl _).range (rB202.old hC)) (sz_sta KB.out)) hS ?_
            simp only [Act.put, List.setIfInBounds_toArray, List.set_cons_zero, List.set_cons_succ]
            refine h_one (i := 5) (by kernel_rfl) (o_call rfl 74 rfl (by kernel_rfl) (run_op_call 11 _ _ rfl #[.agg (scs a).toArray] (by simp only [List.map_toArray, List.map_cons, List.map_nil]; rfl) Tryd.func11 (by kernel_rfl) (by kernel_rfl) _) (H1.out yz (HKW.out _ (below_step bel202 bel202.size hS))) ?_)
            rintro e yz1 ⟨rfl, hB⟩
            have hS1 : Below y202.heap.size y202 yz1 := below_step hS hS.size hB
            clear hB hS
            refine ⟨_, rfl, hS1, ?_⟩
            simp only [Act.put, List.setIfInBounds_toArray, List.set_cons_zero, List.set_cons_succ]
            refine h_one (i := 7) (by kernel_rfl) (o_call rfl 76 rfl (by kernel_rfl) (run_op_call 11 _ _ rfl #[.agg (scs b).toArray] (by simp only [List.map_toArray, List.map_cons, List.map_nil]; rfl) Tryd.func11 (by kernel_rfl) (by kernel_rfl) _) (H2.out yz1 (HKW.out _ (below_step bel202 bel202.size hS1))) ?_)
            rintro e yz2 ⟨rfl, hB⟩
            have hS2 : Below y202.heap.size y202 yz2 := below_step hS1 hS1.size hB
            clear hB hS1
            refine ⟨_, rfl, hS2, ?_⟩
            simp only [Act.put, List.setIfInBounds_toArray, List.set_cons_zero, List.set_cons_succ]
            refine h_take 8 (.bool true) rfl 77 rfl (by kernel_rfl) (by kernel_rfl) (by kernel_rfl) (by kernel_rfl) (fun _ _ _ h => h) (fun w' _ => run_op_eqlD K1.out K2.out _ _ _ rfl rfl rfl true ⟨fun _ => HD.out, fun _ => rfl⟩ w') hS2 ?_
            simp only [Act.put, List.setIfInBounds_toArray, List.set_cons_zero, List.set_cons_succ]
            refine h_take 9 (.bool true) rfl 78 rfl (by kernel_rfl) (by kernel_rfl) (by kernel_rfl) (by kernel_rfl) (fun _ _ _ h => h) (fun w' _ => by kernel_rfl) hS2 ?_
            simp only [Act.put, List.setIfInBounds_toArray, List.set_cons_zero, List.set_cons_succ]
            refine h_take 10 (.bool true) rfl 79 rfl (by kernel_rfl) (by kernel_rfl) (by kernel_rfl) (by kernel_rfl) (fun _ _ _ h => h) (fun w' _ => by kernel_rfl) hS2 ?_
            simp only [Act.put, List.setIfInBounds_toArray, List.set_cons_zero, List.set_cons_succ]
            refine h_pass 11 rfl 80 rfl (by kernel_rfl) (by kernel_rfl) (by kernel_rfl) (by kernel_rfl) (fun _ _ _ h => h) hS2 ?_
            simp only [Act.put, List.setIfInBounds_toArray, List.set_cons_zero, List.set_cons_succ]
            refine h_pass 12 rfl 81 rfl (by kernel_rfl) (by kernel_rfl) (by kernel_rfl) (by kernel_rfl) (fun _ _ _ h => h) hS2 ?_
            simp only [Act.put, List.setIfInBounds_toArray, List.set_cons_zero, List.set_cons_succ]
            refine h_pass 13 rfl 82 rfl (by kernel_rfl) (by kernel_rfl) (by kernel_rfl) (by kernel_rfl) (fun _ _ _ h => h) hS2 ?_
            simp only [Act.put, List.setIfInBounds_toArray, List.set_cons_zero, List.set_cons_succ]
            refine h_take 14 (.bool true) rfl 83 rfl (by kernel_rfl) (by kernel_rfl) (by kernel_rfl) (by kernel_rfl) (fun _ _ _ h => h) (fun w' _ => by kernel_rfl) hS2 ?_
            simp only [Act.put, List.setIfInBounds_toArray, List.set_cons_zero, List.set_cons_succ]
            refine h_take 15 (.bool true) rfl 84 rfl (by kernel_rfl) (by kernel_rfl) (by kernel_rfl) (by kernel_rfl) (fun _ _ _ h => h) (fun w' _ => by kernel_rfl) hS2 ?_
            simp only [Act.put, List.setIfInBounds_toArray, List.set_cons_zero, List.set_cons_succ]
            refine h_pass 16 rfl 85 rfl (by kernel_rfl) (by kernel_rfl) (by kernel_rfl) (by kernel_rfl) (fun _ _ _ h => h) hS2 ?_
            simp only [Act.put, List.setIfInBounds_toArray, List.set_cons_zero, List.set_cons_succ]
            refine h_pass 17 rfl 86 rfl (by kernel_rfl) (by kernel_rfl) (by kernel_rfl) (by kernel_rfl) (fun _ _ _ h => h) hS2 ?_
            simp only [Act.put, List.setIfInBounds_toArray, List.set_cons_zero, List.set_cons_succ]
            refine h_pass 18 rfl 87 rfl (by kernel_rfl) (by kernel_rfl) (by kernel_rfl) (by kernel_rfl) (fun _ _ _ h => h) hS2 ?_
            simp only [Act.put, List.setIfInBounds_toArray, List.set_cons_zero, List.set_cons_succ]
            refine h_take 19 (.bool true) rfl 88 rfl (by kernel_rfl) (by kernel_rfl) (by kernel_rfl) (by kernel_rfl) (fun _ _ _ h => h) (fun w' _ => by kernel_rfl) hS2 ?_
            simp only [Act.put, List.setIfInBounds_toArray, List.set_cons_zero, List.set_cons_succ]
            refine h_take 20 (.bool true) rfl 4 rfl (by kernel_rfl) (by kernel_rfl) (by kernel_rfl) (by kernel_rfl) (fun _ _ _ h => h) (fun w' _ => by kernel_rfl) hS2 ?_
            simp only [Act.put, List.setIfInBounds_toArray, List.set_cons_zero, List.set_cons_succ]
            refine wpAnyH_done (by kernel_rfl) ?_ _
            have belE := below_step bel202 bel202.size hS2
            go_wp2_with fail
            go_ret
            exact ⟨rfl, belE⟩
          · have HD : Hid (¬ d1 = d2) := Lib.hid hd; clear hd
            refine wp_region_held (S := fun w' => Below y202.heap.size y202 w') (by kernel_rfl) ?_
            change wpAnyH _ _ _ _ _ _ _ _ y202.drew
            have hS : Below y202.heap.size y202 y202.drew := (Below.refl _ _).drew
            generalize y202.drew = yz at hS ⊢
            refine h_take 0 (.agg (scs a).toArray) rfl 69 rfl (by kernel_rfl) (by kernel_rfl) (by kernel_rfl) (by kernel_rfl) (fun _ _ _ h => h) (fun w' hC => run_op_load _ _ rfl A 0 rfl (scs a) ((Has.refl _).range (rA202.old hC)) (sz_sta KA.out)) hS ?_
            simp only [Act.put, List.setIfInBounds_toArray, List.set_cons_zero, List.set_cons_succ]
            refine h_take 1 (.agg (scs b).toArray) rfl 70 rfl (by kernel_rfl) (by kernel_rfl) (by kernel_rfl) (by kernel_rfl) (fun _ _ _ h => h) (fun w' hC => run_op_load _ _ rfl B 0 rfl (scs b) ((Has.refl _).range (rB202.old hC)) (sz_sta KB.out)) hS ?_
            simp only [Act.put, List.setIfInBounds_toArray, List.set_cons_zero, List.set_cons_succ]
            refine h_take 2 (.bool false) rfl 71 rfl (by kernel_rfl) (by kernel_rfl) (by kernel_rfl) (by kernel_rfl) (fun _ _ _ h => h) (fun w' _ => run_op_eqlS KA.out KB.out _ _ _ rfl rfl rfl false (Lk.same_iff KA.out KB.out ⟨fun h => absurd h Bool.false_ne_true, fun h => absurd h (show ¬ a = b from E.out)⟩) w') hS ?_
            simp only [Act.put, List.setIfInBounds_toArray, List.set_cons_zero, List.set_cons_succ]
            refine h_take 3 (.bool false) rfl 72 rfl (by kernel_rfl) (by kernel_rfl) (by kernel_rfl) (by kernel_rfl) (fun _ _ _ h => h) (fun w' _ => by kernel_rfl) hS ?_
            simp only [Act.put, List.setIfInBounds_toArray, List.set_cons_zero, List.set_cons_succ]
            refine h_take 4 (.agg (scs a).toArray) rfl 73 rfl (by kernel_rfl) (by kernel_rfl) (by kernel_rfl) (by kernel_rfl) (fun _ _ _ h => h) (fun w' hC => run_op_load _ _ rfl A 0 rfl (scs a) ((Has.refl _).range (rA202.old hC)) (sz_sta KA.out)) hS ?_
            simp only [Act.put, List.setIfInBounds_toArray, List.set_cons_zero, List.set_cons_succ]
            refine h_take 6 (.agg (scs b).toArray) rfl 75 rfl (by kernel_rfl) (by kernel_rfl) (by kernel_rfl) (by kernel_rfl) (fun _ _ _ h => h) (fun w' hC => run_op_load _ _ rfl B 0 rfl (scs b) ((Has.refl _).range (rB202.old hC)) (sz_sta KB.out)) hS ?_
            simp only [Act.put, List.setIfInBounds_toArray, List.set_cons_zero, List.set_cons_succ]
            refine h_one (i := 5) (by kernel_rfl) (o_call rfl 74 rfl (by kernel_rfl) (run_op_call 11 _ _ rfl #[.agg (scs a).toArray] (by simp only [List.map_toArray, List.map_cons, List.map_nil]; rfl) Tryd.func11 (by kernel_rfl) (by kernel_rfl) _) (H1.out yz (HKW.out _ (below_step bel202 bel202.size hS))) ?_)
            rintro e yz1 ⟨rfl, hB⟩
            have hS1 : Below y202.heap.size y202 yz1 := below_step hS hS.size hB
            clear hB hS
            refine ⟨_, rfl, hS1, ?_⟩
            simp only [Act.put, List.setIfInBounds_toArray, List.set_cons_zero, List.set_cons_succ]
            refine h_one (i := 7) (by kernel_rfl) (o_call rfl 76 rfl (by kernel_rfl) (run_op_call 11 _ _ rfl #[.agg (scs b).toArray] (by simp only [List.map_toArray, List.map_cons, List.map_nil]; rfl) Tryd.func11 (by kernel_rfl) (by kernel_rfl) _) (H2.out yz1 (HKW.out _ (below_step bel202 bel202.size hS1))) ?_)
            rintro e yz2 ⟨rfl, hB⟩
            have hS2 : Below y202.heap.size y202 yz2 := below_step hS1 hS1.size hB
            clear hB hS1
            refine ⟨_, rfl, hS2, ?_⟩
            simp only [Act.put, List.setIfInBounds_toArray, List.set_cons_zero, List.set_cons_succ]
            refine h_take 8 (.bool false) rfl 77 rfl (by kernel_rfl) (by kernel_rfl) (by kernel_rfl) (by kernel_rfl) (fun _ _ _ h => h) (fun w' _ => run_op_eqlD K1.out K2.out _ _ _ rfl rfl rfl false ⟨fun h => absurd h Bool.false_ne_true, fun h => absurd h (show ¬ d1 = d2 from HD.out)⟩ w') hS2 ?_
            simp only [Act.put, List.setIfInBounds_toArray, List.set_cons_zero, List.set_cons_succ]
            refine h_take 9 (.bool false) rfl 78 rfl (by kernel_rfl) (by kernel_rfl) (by kernel_rfl) (by kernel_rfl) (fun _ _ _ h => h) (fun w' _ => by kernel_rfl) hS2 ?_
            simp only [Act.put, List.setIfInBounds_toArray, List.set_cons_zero, List.set_cons_succ]
            refine h_take 10 (.bool false) rfl 79 rfl (by kernel_rfl) (by kernel_rfl) (by kernel_rfl) (by kernel_rfl) (fun _ _ _ h => h) (fun w' _ => by kernel_rfl) hS2 ?_
            simp only [Act.put, List.setIfInBounds_toArray, List.set_cons_zero, List.set_cons_succ]
            refine h_take 11 (.agg (scs a).toArray) rfl 80 rfl (by kernel_rfl) (by kernel_rfl) (by kernel_rfl) (by kernel_rfl) (fun _ _ _ h => h) (fun w' hC => run_op_load _ _ rfl A 0 rfl (scs a) ((Has.refl _).range (rA202.old hC)) (sz_sta KA.out)) hS2 ?_
            simp only [Act.put, List.setIfInBounds_toArray, List.set_cons_zero, List.set_cons_succ]
            refine h_take 12 (.agg (scs b).toArray) rfl 81 rfl (by kernel_rfl) (by kernel_rfl) (by kernel_rfl) (by kernel_rfl) (fun _ _ _ h => h) (fun w' hC => run_op_load _ _ rfl B 0 rfl (scs b) ((Has.refl _).range (rB202.old hC)) (sz_sta KB.out)) hS2 ?_
            simp only [Act.put, List.setIfInBounds_toArray, List.set_cons_zero, List.set_cons_succ]
            refine h_one (i := 13) (by kernel_rfl) (o_call rfl 82 rfl (by kernel_rfl) (run_op_call 10 _ _ rfl #[.agg (scs a).toArray, .agg (scs b).toArray] (by simp only [List.map_toArray, List.map_cons, List.map_nil]; rfl) Tryd.func10 (by kernel_rfl) (by kernel_rfl) _) (W1.out yz2 (HKW.out _ (below_step bel202 bel202.size hS2))) ?_)
            rintro e yz3 ⟨rfl, hB⟩
            have hS3 : Below y202.heap.size y202 yz3 := below_step hS2 hS2.size hB
            clear hB hS2
            refine ⟨_, rfl, hS3, ?_⟩
            simp only [Act.put, List.setIfInBounds_toArray, List.set_cons_zero, List.set_cons_succ]
            refine h_take 14 (.bool true) rfl 83 rfl (by kernel_rfl) (by kernel_rfl) (by kernel_rfl) (by kernel_rfl) (fun _ _ _ h => h) (fun w' _ => by kernel_rfl) hS3 ?_
            simp only [Act.put, List.setIfInBounds_toArray, List.set_cons_zero, List.set_cons_succ]
            refine h_take 15 (.bool true) rfl 84 rfl (by kernel_rfl) (by kernel_rfl) (by kernel_rfl) (by kernel_rfl) (fun _ _ _ h => h) (fun w' _ => by kernel_rfl) hS3 ?_
            simp only [Act.put, List.setIfInBounds_toArray, List.set_cons_zero, List.set_cons_succ]
            refine h_pass 16 rfl 85 rfl (by kernel_rfl) (by kernel_rfl) (by kernel_rfl) (by kernel_rfl) (fun _ _ _ h => h) hS3 ?_
            simp only [Act.put, List.setIfInBounds_toArray, List.set_cons_zero, List.set_cons_succ]
            refine h_pass 17 rfl 86 rfl (by kernel_rfl) (by kernel_rfl) (by kernel_rfl) (by kernel_rfl) (fun _ _ _ h => h) hS3 ?_
            simp only [Act.put, List.setIfInBounds_toArray, List.set_cons_zero, List.set_cons_succ]
            refine h_pass 18 rfl 87 rfl (by kernel_rfl) (by kernel_rfl) (by kernel_rfl) (by kernel_rfl) (fun _ _ _ h => h) hS3 ?_
            simp only [Act.put, List.setIfInBounds_toArray, List.set_cons_zero, List.set_cons_succ]
            refine h_take 19 (.bool true) rfl 88 rfl (by kernel_rfl) (by kernel_rfl) (by kernel_rfl) (by kernel_rfl) (fun _ _ _ h => h) (fun w' _ => by kernel_rfl) hS3 ?_
            simp only [Act.put, List.setIfInBounds_toArray, List.set_cons_zero, List.set_cons_succ]
            refine h_take 20 (.bool true) rfl 4 rfl (by kernel_rfl) (by kernel_rfl) (by kernel_rfl) (by kernel_rfl) (fun _ _ _ h => h) (fun w' _ => by kernel_rfl) hS3 ?_
            simp only [Act.put, List.setIfInBounds_toArray, List.set_cons_zero, List.set_cons_succ]
            refine wpAnyH_done (by kernel_rfl) ?_ _
            have belE := below_step bel202 bel202.size hS3
            go_wp2_with fail
            go_ret
            exact ⟨rfl, belE⟩
      · rw [decide_eq_false h] at W1; rw [decide_eq_true g] at W2
        clear h g HX HW
        go_wp2_with (first
          | ((with_reducible refine at_slot 61 ?_); (refine arm_load (o := ⟨some 61, _, _, _, _, _⟩) rfl _ _ rfl A 0 rfl (scs a) ((show Has (scs a) 0 (scs a) from Has.refl _).range (rA)) (sz_sta KA.out) ?_))
          | ((with_reducible refine at_slot 62 ?_); (refine arm_load (o := ⟨some 62, _, _, _, _, _⟩) rfl _ _ rfl B 0 rfl (scs b) ((show Has (scs b) 0 (scs b) from Has.refl _).range (rB)) (sz_sta KB.out) ?_)))
        refine (W1.out _ (HKW.out _ bel)).mono ?_
        rintro e y201 ⟨rfl, hB⟩
        have rA201 : Row y201 A 35 (scs a) := rA.old hB
        have rB201 : Row y201 B 35 (scs b) := rB.old hB
        have bel201 : Below w.heap.size w y201 := below_step bel bel.size hB
        clear hB rA rB bel
        go_wp2_with fail
        by_cases hab : a = b
        · have E := Lib.hid hab; clear hab
          refine wp_region_held (S := fun w' => Below y201.heap.size y201 w') (by kernel_rfl) ?_
          change wpAnyH _ _ _ _ _ _ _ _ y201.drew
          have hS : Below y201.heap.size y201 y201.drew := (Below.refl _ _).drew
          generalize y201.drew = yz at hS ⊢
          refine h_take 0 (.agg (scs a).toArray) rfl 69 rfl (by kernel_rfl) (by kernel_rfl) (by kernel_rfl) (by kernel_rfl) (fun _ _ _ h => h) (fun w' hC => run_op_load _ _ rfl A 0 rfl (scs a) ((Has.refl _).range (rA201.old hC)) (sz_sta KA.out)) hS ?_
          simp only [Act.put, List.setIfInBounds_toArray, List.set_cons_zero, List.set_cons_succ]
          refine h_take 1 (.agg (scs b).toArray) rfl 70 rfl (by kernel_rfl) (by kernel_rfl) (by kernel_rfl) (by kernel_rfl) (fun _ _ _ h => h) (fun w' hC => run_op_load _ _ rfl B 0 rfl (scs b) ((Has.refl _).range (rB201.old hC)) (sz_sta KB.out)) hS ?_
          simp only [Act.put, List.setIfInBounds_toArray, List.set_cons_zero, List.set_cons_succ]
          refine h_take 2 (.bool true) rfl 71 rfl (by kernel_rfl) (by kernel_rfl) (by kernel_rfl) (by kernel_rfl) (fun _ _ _ h => h) (fun w' _ => run_op_eqlS KA.out KB.out _ _ _ rfl rfl rfl true (Lk.same_iff KA.out KB.out ⟨fun _ => E.out, fun _ => rfl⟩) w') hS ?_
          simp only [Act.put, List.setIfInBounds_toArray, List.set_cons_zero, List.set_cons_succ]
          refine h_take 3 (.bool true) rfl 72 rfl (by kernel_rfl) (by kernel_rfl) (by kernel_rfl) (by kernel_rfl) (fun _ _ _ h => h) (fun w' _ => by kernel_rfl) hS ?_
          simp only [Act.put, List.setIfInBounds_toArray, List.set_cons_zero, List.set_cons_succ]
          refine h_pass 4 rfl 73 rfl (by kernel_rfl) (by kernel_rfl) (by kernel_rfl) (by kernel_rfl) (fun _ _ _ h => h) hS ?_
          simp only [Act.put, List.setIfInBounds_toArray, List.set_cons_zero, List.set_cons_succ]
          refine h_pass 5 rfl 74 rfl (by kernel_rfl) (by kernel_rfl) (by kernel_rfl) (by kernel_rfl) (fun _ _ _ h => h) hS ?_
          simp only [Act.put, List.setIfInBounds_toArray, List.set_cons_zero, List.set_cons_succ]
          refine h_pass 6 rfl 75 rfl (by kernel_rfl) (by kernel_rfl) (by kernel_rfl) (by kernel_rfl) (fun _ _ _ h => h) hS ?_
          simp only [Act.put, List.setIfInBounds_toArray, List.set_cons_zero, List.set_cons_succ]
          refine h_pass 7 rfl 76 rfl (by kernel_rfl) (by kernel_rfl) (by kernel_rfl) (by kernel_rfl) (fun _ _ _ h => h) hS ?_
          simp only [Act.put, List.setIfInBounds_toArray, List.set_cons_zero, List.set_cons_succ]
          refine h_pass 8 rfl 77 rfl (by kernel_rfl) (by kernel_rfl) (by kernel_rfl) (by kernel_rfl) (fun _ _ _ h => h) hS ?_
          simp only [Act.put, List.setIfInBounds_toArray, List.set_cons_zero, List.set_cons_succ]
          refine h_take 9 (.bool true) rfl 78 rfl (by kernel_rfl) (by kernel_rfl) (by kernel_rfl) (by kernel_rfl) (fun _ _ _ h => h) (fun w' _ => by kernel_rfl) hS ?_
          simp only [Act.put, List.setIfInBounds_toArray, List.set_cons_zero, List.set_cons_succ]
          refine h_take 10 (.bool true) rfl 79 rfl (by kernel_rfl) (by kernel_rfl) (by kernel_rfl) (by kernel_rfl) (fun _ _ _ h => h) (fun w' _ => by kernel_rfl) hS ?_
          simp only [Act.put, List.setIfInBounds_toArray, List.set_cons_zero, List.set_cons_succ]
          refine h_pass 11 rfl 80 rfl (by kernel_rfl) (by kernel_rfl) (by kernel_rfl) (by kernel_rfl) (fun _ _ _ h => h) hS ?_
          simp only [Act.put, List.setIfInBounds_toArray, List.set_cons_zero, List.set_cons_succ]
          refine h_pass 12 rfl 81 rfl (by kernel_rfl) (by kernel_rfl) (by kernel_rfl) (by kernel_rfl) (fun _ _ _ h => h) hS ?_
          simp only [Act.put, List.setIfInBounds_toArray, List.set_cons_zero, List.set_cons_succ]
          refine h_pass 13 rfl 82 rfl (by kernel_rfl) (by kernel_rfl) (by kernel_rfl) (by kernel_rfl) (fun _ _ _ h => h) hS ?_
          simp only [Act.put, List.setIfInBounds_toArray, List.set_cons_zero, List.set_cons_succ]
          refine h_take 14 (.bool true) rfl 83 rfl (by kernel_rfl) (by kernel_rfl) (by kernel_rfl) (by kernel_rfl) (fun _ _ _ h => h) (fun w' _ => by kernel_rfl) hS ?_
          simp only [Act.put, List.setIfInBounds_toArray, List.set_cons_zero, List.set_cons_succ]
          refine h_take 15 (.bool true) rfl 84 rfl (by kernel_rfl) (by kernel_rfl) (by kernel_rfl) (by kernel_rfl) (fun _ _ _ h => h) (fun w' _ => by kernel_rfl) hS ?_
          simp only [Act.put, List.setIfInBounds_toArray, List.set_cons_zero, List.set_cons_succ]
          refine h_pass 16 rfl 85 rfl (by kernel_rfl) (by kernel_rfl) (by kernel_rfl) (by kernel_rfl) (fun _ _ _ h => h) hS ?_
          simp only [Act.put, List.setIfInBounds_toArray, List.set_cons_zero, List.set_cons_succ]
          refine h_pass 17 rfl 86 rfl (by kernel_rfl) (by kernel_rfl) (by kernel_rfl) (by kernel_rfl) (fun _ _ _ h => h) hS ?_
          simp only [Act.put, List.setIfInBounds_toArray, List.set_cons_zero, List.set_cons_succ]
          refine h_pass 18 rfl 87 rfl (by kernel_rfl) (by kernel_rfl) (by kernel_rfl) (by kernel_rfl) (fun _ _ _ h => h) hS ?_
          simp only [Act.put, List.setIfInBounds_toArray, List.set_cons_zero, List.set_cons_succ]
          refine h_take 19 (.bool true) rfl 88 rfl (by kernel_rfl) (by kernel_rfl) (by kernel_rfl) (by kernel_rfl) (fun _ _ _ h => h) (fun w' _ => by kernel_rfl) hS ?_
          simp only [Act.put, List.setIfInBounds_toArray, List.set_cons_zero, List.set_cons_succ]
          refine h_take 20 (.bool true) rfl 4 rfl (by kernel_rfl) (by kernel_rfl) (by kernel_rfl) (by kernel_rfl) (fun _ _ _ h => h) (fun w' _ => by kernel_rfl) hS ?_
          simp only [Act.put, List.setIfInBounds_toArray, List.set_cons_zero, List.set_cons_succ]
          refine wpAnyH_done (by kernel_rfl) ?_ _
          have belE := below_step bel201 bel201.size hS
          go_wp2_with fail
          go_ret
          exact ⟨rfl, belE⟩
        · have E : Hid (¬ a = b) := Lib.hid hab; clear hab
          by_cases hd : d1 = d2
          · have HD := Lib.hid hd; clear hd
            refine wp_region_held (S := fun w' => Below y201.heap.size y201 w') (by kernel_rfl) ?_
            change wpAnyH _ _ _ _ _ _ _ _ y201.drew
            have hS : Below y201.heap.size y201 y201.drew := (Below.refl _ _).drew
            generalize y201.drew = yz at hS ⊢
            refine h_take 0 (.agg (scs a).toArray) rfl 69 rfl (by kernel_rfl) (by kernel_rfl) (by kernel_rfl) (by kernel_rfl) (fun _ _ _ h => h) (fun w' hC => run_op_load _ _ rfl A 0 rfl (scs a) ((Has.refl _).range (rA201.old hC)) (sz_sta KA.out)) hS ?_
            simp only [Act.put, List.setIfInBounds_toArray, List.set_cons_zero, List.set_cons_succ]
            refine h_take 1 (.agg (scs b).toArray) rfl 70 rfl (by kernel_rfl) (by kernel_rfl) (by kernel_rfl) (by kernel_rfl) (fun _ _ _ h => h) (fun w' hC => run_op_load _ _ rfl B 0 rfl (scs b) ((Has.refl _).range (rB201.old hC)) (sz_sta KB.out)) hS ?_
            simp only [Act.put, List.setIfInBounds_toArray, List.set_cons_zero, List.set_cons_succ]
            refine h_take 2 (.bool false) rfl 71 rfl (by kernel_rfl) (by kernel_rfl) (by kernel_rfl) (by kernel_rfl) (fun _ _ _ h => h) (fun w' _ => run_op_eqlS KA.out KB.out _ _ _ rfl rfl rfl false (Lk.same_iff KA.out KB.out ⟨fun h => absurd h Bool.false_ne_true, fun h => absurd h (show ¬ a = b from E.out)⟩) w') hS ?_
            simp only [Act.put, List.setIfInBounds_toArray, List.set_cons_zero, List.set_cons_succ]
            refine h_take 3 (.bool false) rfl 72 rfl (by kernel_rfl) (by kernel_rfl) (by kernel_rfl) (by kernel_rfl) (fun _ _ _ h => h) (fun w' _ => by kernel_rfl) hS ?_
            simp only [Act.put, List.setIfInBounds_toArray, List.set_cons_zero, List.set_cons_succ]
            refine h_take 4 (.agg (scs a).toArray) rfl 73 rfl (by kernel_rfl) (by kernel_rfl) (by kernel_rfl) (by kernel_rfl) (fun _ _ _ h => h) (fun w' hC => run_op_load _ _ rfl A 0 rfl (scs a) ((Has.refl _).range (rA201.old hC)) (sz_sta KA.out)) hS ?_
            simp only [Act.put, List.setIfInBounds_toArray, List.set_cons_zero, List.set_cons_succ]
            refine h_take 6 (.agg (scs b).toArray) rfl 75 rfl (by kernel_rfl) (by kernel_rfl) (by kernel_rfl) (by kernel_rfl) (fun _ _ _ h => h) (fun w' hC => run_op_load _ _ rfl B 0 rfl (scs b) ((Has.refl _).range (rB201.old hC)) (sz_sta KB.out)) hS ?_
            simp only [Act.put, List.setIfInBounds_toArray, List.set_cons_zero, List.set_cons_succ]
            refine h_one (i := 5) (by kernel_rfl) (o_call rfl 74 rfl (by kernel_rfl) (run_op_call 11 _ _ rfl #[.agg (scs a).toArray] (by simp only [List.map_toArray, List.map_cons, List.map_nil]; rfl) Tryd.func11 (by kernel_rfl) (by kernel_rfl) _) (H1.out yz (HKW.out _ (below_step bel201 bel201.size hS))) ?_)
            rintro e yz1 ⟨rfl, hB⟩
            have hS1 : Below y201.heap.size y201 yz1 := below_step hS hS.size hB
            clear hB hS
            refine ⟨_, rfl, hS1, ?_⟩
            simp only [Act.put, List.setIfInBounds_toArray, List.set_cons_zero, List.set_cons_succ]
            refine h_one (i := 7) (by kernel_rfl) (o_call rfl 76 rfl (by kernel_rfl) (run_op_call 11 _ _ rfl #[.agg (scs b).toArray] (by simp only [List.map_toArray, List.map_cons, List.map_nil]; rfl) Tryd.func11 (by kernel_rfl) (by kernel_rfl) _) (H2.out yz1 (HKW.out _ (below_step bel201 bel201.size hS1))) ?_)
            rintro e yz2 ⟨rfl, hB⟩
            have hS2 : Below y201.heap.size y201 yz2 := below_step hS1 hS1.size hB
            clear hB hS1
            refine ⟨_, rfl, hS2, ?_⟩
            simp only [Act.put, List.setIfInBounds_toArray, List.set_cons_zero, List.set_cons_succ]
            refine h_take 8 (.bool true) rfl 77 rfl (by kernel_rfl) (by kernel_rfl) (by kernel_rfl) (by kernel_rfl) (fun _ _ _ h => h) (fun w' _ => run_op_eqlD K1.out K2.out _ _ _ rfl rfl rfl true ⟨fun _ => HD.out, fun _ => rfl⟩ w') hS2 ?_
            simp only [Act.put, List.setIfInBounds_toArray, List.set_cons_zero, List.set_cons_succ]
            refine h_take 9 (.bool true) rfl 78 rfl (by kernel_rfl) (by kernel_rfl) (by kernel_rfl) (by kernel_rfl) (fun _ _ _ h => h) (fun w' _ => by kernel_rfl) hS2 ?_
            simp only [Act.put, List.setIfInBounds_toArray, List.set_cons_zero, List.set_cons_succ]
            refine h_take 10 (.bool true) rfl 79 rfl (by kernel_rfl) (by kernel_rfl) (by kernel_rfl) (by kernel_rfl) (fun _ _ _ h => h) (fun w' _ => by kernel_rfl) hS2 ?_
            simp only [Act.put, List.setIfInBounds_toArray, List.set_cons_zero, List.set_cons_succ]
            refine h_pass 11 rfl 80 rfl (by kernel_rfl) (by kernel_rfl) (by kernel_rfl) (by kernel_rfl) (fun _ _ _ h => h) hS2 ?_
            simp only [Act.put, List.setIfInBounds_toArray, List.set_cons_zero, List.set_cons_succ]
            refine h_pass 12 rfl 81 rfl (by kernel_rfl) (by kernel_rfl) (by kernel_rfl) (by kernel_rfl) (fun _ _ _ h => h) hS2 ?_
            simp only [Act.put, List.setIfInBounds_toArray, List.set_cons_zero, List.set_cons_succ]
            refine h_pass 13 rfl 82 rfl (by kernel_rfl) (by kernel_rfl) (by kernel_rfl) (by kernel_rfl) (fun _ _ _ h => h) hS2 ?_
            simp only [Act.put, List.setIfInBounds_toArray, List.set_cons_zero, List.set_cons_succ]
            refine h_take 14 (.bool true) rfl 83 rfl (by kernel_rfl) (by kernel_rfl) (by kernel_rfl) (by kernel_rfl) (fun _ _ _ h => h) (fun w' _ => by kernel_rfl) hS2 ?_
            simp only [Act.put, List.setIfInBounds_toArray, List.set_cons_zero, List.set_cons_succ]
            refine h_take 15 (.bool true) rfl 84 rfl (by kernel_rfl) (by kernel_rfl) (by kernel_rfl) (by kernel_rfl) (fun _ _ _ h => h) (fun w' _ => by kernel_rfl) hS2 ?_
            simp only [Act.put, List.setIfInBounds_toArray, List.set_cons_zero, List.set_cons_succ]
            refine h_pass 16 rfl 85 rfl (by kernel_rfl) (by kernel_rfl) (by kernel_rfl) (by kernel_rfl) (fun _ _ _ h => h) hS2 ?_
            simp only [Act.put, List.setIfInBounds_toArray, List.set_cons_zero, List.set_cons_succ]
            refine h_pass 17 rfl 86 rfl (by kernel_rfl) (by kernel_rfl) (by kernel_rfl) (by kernel_rfl) (fun _ _ _ h => h) hS2 ?_
            simp only [Act.put, List.setIfInBounds_toArray, List.set_cons_zero, List.set_cons_succ]
            refine h_pass 18 rfl 87 rfl (by kernel_rfl) (by kernel_rfl) (by kernel_rfl) (by kernel_rfl) (fun _ _ _ h => h) hS2 ?_
            simp only [Act.put, List.setIfInBounds_toArray, List.set_cons_zero, List.set_cons_succ]
            refine h_take 19 (.bool true) rfl 88 rfl (by kernel_rfl) (by kernel_rfl) (by kernel_rfl) (by kernel_rfl) (fun _ _ _ h => h) (fun w' _ => by kernel_rfl) hS2 ?_
            simp only [Act.put, List.setIfInBounds_toArray, List.set_cons_zero, List.set_cons_succ]
            refine h_take 20 (.bool true) rfl 4 rfl (by kernel_rfl) (by kernel_rfl) (by kernel_rfl) (by kernel_rfl) (fun _ _ _ h => h) (fun w' _ => by kernel_rfl) hS2 ?_
            simp only [Act.put, List.setIfInBounds_toArray, List.set_cons_zero, List.set_cons_succ]
            refine wpAnyH_done (by kernel_rfl) ?_ _
            have belE := below_step bel201 bel201.size hS2
            go_wp2_with fail
            go_ret
            exact ⟨rfl, belE⟩
          · have HD : Hid (¬ d1 = d2) := Lib.hid hd; clear hd
            refine wp_region_held (S := fun w' => Below y201.heap.size y201 w') (by kernel_rfl) ?_
            change wpAnyH _ _ _ _ _ _ _ _ y201.drew
            have hS : Below y201.heap.size y201 y201.drew := (Below.refl _ _).drew
            generalize y201.drew = yz at hS ⊢
            refine h_take 0 (.agg (scs a).toArray) rfl 69 rfl (by kernel_rfl) (by kernel_rfl) (by kernel_rfl) (by kernel_rfl) (fun _ _ _ h => h) (fun w' hC => run_op_load _ _ rfl A 0 rfl (scs a) ((Has.refl _).range (rA201.old hC)) (sz_sta KA.out)) hS ?_
            simp only [Act.put, List.setIfInBounds_toArray, List.set_cons_zero, List.set_cons_succ]
            refine h_take 1 (.agg (scs b).toArray) rfl 70 rfl (by kernel_rfl) (by kernel_rfl) (by kernel_rfl) (by kernel_rfl) (fun _ _ _ h => h) (fun w' hC => run_op_load _ _ rfl B 0 rfl (scs b) ((Has.refl _).range (rB201.old hC)) (sz_sta KB.out)) hS ?_
            simp only [Act.put, List.setIfInBounds_toArray, List.set_cons_zero, List.set_cons_succ]
            refine h_take 2 (.bool false) rfl 71 rfl (by kernel_rfl) (by kernel_rfl) (by kernel_rfl) (by kernel_rfl) (fun _ _ _ h => h) (fun w' _ => run_op_eqlS KA.out KB.out _ _ _ rfl rfl rfl false (Lk.same_iff KA.out KB.out ⟨fun h => absurd h Bool.false_ne_true, fun h => absurd h (show ¬ a = b from E.out)⟩) w') hS ?_
            simp only [Act.put, List.setIfInBounds_toArray, List.set_cons_zero, List.set_cons_succ]
            refine h_take 3 (.bool false) rfl 72 rfl (by kernel_rfl) (by kernel_rfl) (by kernel_rfl) (by kernel_rfl) (fun _ _ _ h => h) (fun w' _ => by kernel_rfl) hS ?_
            simp only [Act.put, List.setIfInBounds_toArray, List.set_cons_zero, List.set_cons_succ]
            refine h_take 4 (.agg (scs a).toArray) rfl 73 rfl (by kernel_rfl) (by kernel_rfl) (by kernel_rfl) (by kernel_rfl) (fun _ _ _ h => h) (fun w' hC => run_op_load _ _ rfl A 0 rfl (scs a) ((Has.refl _).range (rA201.old hC)) (sz_sta KA.out)) hS ?_
            simp only [Act.put, List.setIfInBounds_toArray, List.set_cons_zero, List.set_cons_succ]
            refine h_take 6 (.agg (scs b).toArray) rfl 75 rfl (by kernel_rfl) (by kernel_rfl) (by kernel_rfl) (by kernel_rfl) (fun _ _ _ h => h) (fun w' hC => run_op_load _ _ rfl B 0 rfl (scs b) ((Has.refl _).range (rB201.old hC)) (sz_sta KB.out)) hS ?_
            simp only [Act.put, List.setIfInBounds_toArray, List.set_cons_zero, List.set_cons_succ]
            refine h_one (i := 5) (by kernel_rfl) (o_call rfl 74 rfl (by kernel_rfl) (run_op_call 11 _ _ rfl #[.agg (scs a).toArray] (by simp only [List.map_toArray, List.map_cons, List.map_nil]; rfl) Tryd.func11 (by kernel_rfl) (by kernel_rfl) _) (H1.out yz (HKW.out _ (below_step bel201 bel201.size hS))) ?_)
            rintro e yz1 ⟨rfl, hB⟩
            have hS1 : Below y201.heap.size y201 yz1 := below_step hS hS.size hB
            clear hB hS
            refine ⟨_, rfl, hS1, ?_⟩
            simp only [Act.put, List.setIfInBounds_toArray, List.set_cons_zero, List.set_cons_succ]
            refine h_one (i := 7) (by kernel_rfl) (o_call rfl 76 rfl (by kernel_rfl) (run_op_call 11 _ _ rfl #[.agg (scs b).toArray] (by simp only [List.map_toArray, List.map_cons, List.map_nil]; rfl) Tryd.func11 (by kernel_rfl) (by kernel_rfl) _) (H2.out yz1 (HKW.out _ (below_step bel201 bel201.size hS1))) ?_)
            rintro e yz2 ⟨rfl, hB⟩
            have hS2 : Below y201.heap.size y201 yz2 := below_step hS1 hS1.size hB
            clear hB hS1
            refine ⟨_, rfl, hS2, ?_⟩
            simp only [Act.put, List.setIfInBounds_toArray, List.set_cons_zero, List.set_cons_succ]
            refine h_take 8 (.bool false) rfl 77 rfl (by kernel_rfl) (by kernel_rfl) (by kernel_rfl) (by kernel_rfl) (fun _ _ _ h => h) (fun w' _ => run_op_eqlD K1.out K2.out _ _ _ rfl rfl rfl false ⟨fun h => absurd h Bool.false_ne_true, fun h => absurd h (show ¬ d1 = d2 from HD.out)⟩ w') hS2 ?_
            simp only [Act.put, List.setIfInBounds_toArray, List.set_cons_zero, List.set_cons_succ]
            refine h_take 9 (.bool false) rfl 78 rfl (by kernel_rfl) (by kernel_rfl) (by kernel_rfl) (by kernel_rfl) (fun _ _ _ h => h) (fun w' _ => by kernel_rfl) hS2 ?_
            simp only [Act.put, List.setIfInBounds_toArray, List.set_cons_zero, List.set_cons_succ]
            refine h_take 10 (.bool false) rfl 79 rfl (by kernel_rfl) (by kernel_rfl) (by kernel_rfl) (by kernel_rfl) (fun _ _ _ h => h) (fun w' _ => by kernel_rfl) hS2 ?_
            simp only [Act.put, List.setIfInBounds_toArray, List.set_cons_zero, List.set_cons_succ]
            refine h_take 11 (.agg (scs a).toArray) rfl 80 rfl (by kernel_rfl) (by kernel_rfl) (by kernel_rfl) (by kernel_rfl) (fun _ _ _ h => h) (fun w' hC => run_op_load _ _ rfl A 0 rfl (scs a) ((Has.refl _).range (rA201.old hC)) (sz_sta KA.out)) hS2 ?_
            simp only [Act.put, List.setIfInBounds_toArray, List.set_cons_zero, List.set_cons_succ]
            refine h_take 12 (.agg (scs b).toArray) rfl 81 rfl (by kernel_rfl) (by kernel_rfl) (by kernel_rfl) (by kernel_rfl) (fun _ _ _ h => h) (fun w' hC => run_op_load _ _ rfl B 0 rfl (scs b) ((Has.refl _).range (rB201.old hC)) (sz_sta KB.out)) hS2 ?_
            simp only [Act.put, List.setIfInBounds_toArray, List.set_cons_zero, List.set_cons_succ]
            refine h_one (i := 13) (by kernel_rfl) (o_call rfl 82 rfl (by kernel_rfl) (run_op_call 10 _ _ rfl #[.agg (scs a).toArray, .agg (scs b).toArray] (by simp only [List.map_toArray, List.map_cons, List.map_nil]; rfl) Tryd.func10 (by kernel_rfl) (by kernel_rfl) _) (W1.out yz2 (HKW.out _ (below_step bel201 bel201.size hS2))) ?_)
            rintro e yz3 ⟨rfl, hB⟩
            have hS3 : Below y201.heap.size y201 yz3 := below_step hS2 hS2.size hB
            clear hB hS2
            refine ⟨_, rfl, hS3, ?_⟩
            simp only [Act.put, List.setIfInBounds_toArray, List.set_cons_zero, List.set_cons_succ]
            refine h_take 14 (.bool false) rfl 83 rfl (by kernel_rfl) (by kernel_rfl) (by kernel_rfl) (by kernel_rfl) (fun _ _ _ h => h) (fun w' _ => by kernel_rfl) hS3 ?_
            simp only [Act.put, List.setIfInBounds_toArray, List.set_cons_zero, List.set_cons_succ]
            refine h_take 15 (.bool false) rfl 84 rfl (by kernel_rfl) (by kernel_rfl) (by kernel_rfl) (by kernel_rfl) (fun _ _ _ h => h) (fun w' _ => by kernel_rfl) hS3 ?_
            simp only [Act.put, List.setIfInBounds_toArray, List.set_cons_zero, List.set_cons_succ]
            refine h_take 16 (.agg (scs b).toArray) rfl 85 rfl (by kernel_rfl) (by kernel_rfl) (by kernel_rfl) (by kernel_rfl) (fun _ _ _ h => h) (fun w' hC => run_op_load _ _ rfl B 0 rfl (scs b) ((Has.refl _).range (rB201.old hC)) (sz_sta KB.out)) hS3 ?_
            simp only [Act.put, List.setIfInBounds_toArray, List.set_cons_zero, List.set_cons_succ]
            refine h_take 17 (.agg (scs a).toArray) rfl 86 rfl (by kernel_rfl) (by kernel_rfl) (by kernel_rfl) (by kernel_rfl) (fun _ _ _ h => h) (fun w' hC => run_op_load _ _ rfl A 0 rfl (scs a) ((Has.refl _).range (rA201.old hC)) (sz_sta KA.out)) hS3 ?_
            simp only [Act.put, List.setIfInBounds_toArray, List.set_cons_zero, List.set_cons_succ]
            refine h_one (i := 18) (by kernel_rfl) (o_call rfl 87 rfl (by kernel_rfl) (run_op_call 10 _ _ rfl #[.agg (scs b).toArray, .agg (scs a).toArray] (by simp only [List.map_toArray, List.map_cons, List.map_nil]; rfl) Tryd.func10 (by kernel_rfl) (by kernel_rfl) _) (W2.out yz3 (HKW.out _ (below_step bel201 bel201.size hS3))) ?_)
            rintro e yz4 ⟨rfl, hB⟩
            have hS4 : Below y201.heap.size y201 yz4 := below_step hS3 hS3.size hB
            clear hB hS3
            refine ⟨_, rfl, hS4, ?_⟩
            simp only [Act.put, List.setIfInBounds_toArray, List.set_cons_zero, List.set_cons_succ]
            refine h_take 19 (.bool true) rfl 88 rfl (by kernel_rfl) (by kernel_rfl) (by kernel_rfl) (by kernel_rfl) (fun _ _ _ h => h) (fun w' _ => by kernel_rfl) hS4 ?_
            simp only [Act.put, List.setIfInBounds_toArray, List.set_cons_zero, List.set_cons_succ]
            refine h_take 20 (.bool true) rfl 4 rfl (by kernel_rfl) (by kernel_rfl) (by kernel_rfl) (by kernel_rfl) (fun _ _ _ h => h) (fun w' _ => by kernel_rfl) hS4 ?_
            simp only [Act.put, List.setIfInBounds_toArray, List.set_cons_zero, List.set_cons_succ]
            refine wpAnyH_done (by kernel_rfl) ?_ _
            have belE := below_step bel201 bel201.size hS4
            go_wp2_with fail
            go_ret
            exact ⟨rfl, belE⟩
      · rw [decide_eq_false h] at W1; rw [decide_eq_false g] at W2
        have HD : Hid (d1 = d2) := Lib.hid (Classical.byContradiction fun e => (HW.out e).elim h g)
        clear h g HX HW
        go_wp2_with (first
          | ((with_reducible refine at_slot 61 ?_); (refine arm_load (o := ⟨some 61, _, _, _, _, _⟩) rfl _ _ rfl A 0 rfl (scs a) ((show Has (scs a) 0 (scs a) from Has.refl _).range (rA)) (sz_sta KA.out) ?_))
          | ((with_reducible refine at_slot 62 ?_); (refine arm_load (o := ⟨some 62, _, _, _, _, _⟩) rfl _ _ rfl B 0 rfl (scs b) ((show Has (scs b) 0 (scs b) from Has.refl _).range (rB)) (sz_sta KB.out) ?_)))
        refine (W1.out _ (HKW.out _ bel)).mono ?_
        rintro e y201 ⟨rfl, hB⟩
        have rA201 : Row y201 A 35 (scs a) := rA.old hB
        have rB201 : Row y201 B 35 (scs b) := rB.old hB
        have bel201 : Below w.heap.size w y201 := below_step bel bel.size hB
        clear hB rA rB bel
        go_wp2_with fail
        by_cases hab : a = b
        · have E := Lib.hid hab; clear hab
          refine wp_region_held (S := fun w' => Below y201.heap.size y201 w') (by kernel_rfl) ?_
          change wpAnyH _ _ _ _ _ _ _ _ y201.drew
          have hS : Below y201.heap.size y201 y201.drew := (Below.refl _ _).drew
          generalize y201.drew = yz at hS ⊢
          refine h_take 0 (.agg (scs a).toArray) rfl 69 rfl (by kernel_rfl) (by kernel_rfl) (by kernel_rfl) (by kernel_rfl) (fun _ _ _ h => h) (fun w' hC => run_op_load _ _ rfl A 0 rfl (scs a) ((Has.refl _).range (rA201.old hC)) (sz_sta KA.out)) hS ?_
          simp only [Act.put, List.setIfInBounds_toArray, List.set_cons_zero, List.set_cons_succ]
          refine h_take 1 (.agg (scs b).toArray) rfl 70 rfl (by kernel_rfl) (by kernel_rfl) (by kernel_rfl) (by kernel_rfl) (fun _ _ _ h => h) (fun w' hC => run_op_load _ _ rfl B 0 rfl (scs b) ((Has.refl _).range (rB201.old hC)) (sz_sta KB.out)) hS ?_
          simp only [Act.put, List.setIfInBounds_toArray, List.set_cons_zero, List.set_cons_succ]
          refine h_take 2 (.bool true) rfl 71 rfl (by kernel_rfl) (by kernel_rfl) (by kernel_rfl) (by kernel_rfl) (fun _ _ _ h => h) (fun w' _ => run_op_eqlS KA.out KB.out _ _ _ rfl rfl rfl true (Lk.same_iff KA.out KB.out ⟨fun _ => E.out, fun _ => rfl⟩) w') hS ?_
          simp only [Act.put, List.setIfInBounds_toArray, List.set_cons_zero, List.set_cons_succ]
          refine h_take 3 (.bool true) rfl 72 rfl (by kernel_rfl) (by kernel_rfl) (by kernel_rfl) (by kernel_rfl) (fun _ _ _ h => h) (fun w' _ => by kernel_rfl) hS ?_
          simp only [Act.put, List.setIfInBounds_toArray, List.set_cons_zero, List.set_cons_succ]
          refine h_pass 4 rfl 73 rfl (by kernel_rfl) (by kernel_rfl) (by kernel_rfl) (by kernel_rfl) (fun _ _ _ h => h) hS ?_
          simp only [Act.put, List.setIfInBounds_toArray, List.set_cons_zero, List.set_cons_succ]
          refine h_pass 5 rfl 74 rfl (by kernel_rfl) (by kernel_rfl) (by kernel_rfl) (by kernel_rfl) (fun _ _ _ h => h) hS ?_
          simp only [Act.put, List.setIfInBounds_toArray, List.set_cons_zero, List.set_cons_succ]
          refine h_pass 6 rfl 75 rfl (by kernel_rfl) (by kernel_rfl) (by kernel_rfl) (by kernel_rfl) (fun _ _ _ h => h) hS ?_
          simp only [Act.put, List.setIfInBounds_toArray, List.set_cons_zero, List.set_cons_succ]
          refine h_pass 7 rfl 76 rfl (by kernel_rfl) (by kernel_rfl) (by kernel_rfl) (by kernel_rfl) (fun _ _ _ h => h) hS ?_
          simp only [Act.put, List.setIfInBounds_toArray, List.set_cons_zero, List.set_cons_succ]
          refine h_pass 8 rfl 77 rfl (by kernel_rfl) (by kernel_rfl) (by kernel_rfl) (by kernel_rfl) (fun _ _ _ h => h) hS ?_
          simp only [Act.put, List.setIfInBounds_toArray, List.set_cons_zero, List.set_cons_succ]
          refine h_take 9 (.bool true) rfl 78 rfl (by kernel_rfl) (by kernel_rfl) (by kernel_rfl) (by kernel_rfl) (fun _ _ _ h => h) (fun w' _ => by kernel_rfl) hS ?_
          simp only [Act.put, List.setIfInBounds_toArray, List.set_cons_zero, List.set_cons_succ]
          refine h_take 10 (.bool true) rfl 79 rfl (by kernel_rfl) (by kernel_rfl) (by kernel_rfl) (by kernel_rfl) (fun _ _ _ h => h) (fun w' _ => by kernel_rfl) hS ?_
          simp only [Act.put, List.setIfInBounds_toArray, List.set_cons_zero, List.set_cons_succ]
          refine h_pass 11 rfl 80 rfl (by kernel_rfl) (by kernel_rfl) (by kernel_rfl) (by kernel_rfl) (fun _ _ _ h => h) hS ?_
          simp only [Act.put, List.setIfInBounds_toArray, List.set_cons_zero, List.set_cons_succ]
          refine h_pass 12 rfl 81 rfl (by kernel_rfl) (by kernel_rfl) (by kernel_rfl) (by kernel_rfl) (fun _ _ _ h => h) hS ?_
          simp only [Act.put, List.setIfInBounds_toArray, List.set_cons_zero, List.set_cons_succ]
          refine h_pass 13 rfl 82 rfl (by kernel_rfl) (by kernel_rfl) (by kernel_rfl) (by kernel_rfl) (fun _ _ _ h => h) hS ?_
          simp only [Act.put, List.setIfInBounds_toArray, List.set_cons_zero, List.set_cons_succ]
          refine h_take 14 (.bool true) rfl 83 rfl (by kernel_rfl) (by kernel_rfl) (by kernel_rfl) (by kernel_rfl) (fun _ _ _ h => h) (fun w' _ => by kernel_rfl) hS ?_
          simp only [Act.put, List.setIfInBounds_toArray, List.set_cons_zero, List.set_cons_succ]
          refine h_take 15 (.bool true) rfl 84 rfl (by kernel_rfl) (by kernel_rfl) (by kernel_rfl) (by kernel_rfl) (fun _ _ _ h => h) (fun w' _ => by kernel_rfl) hS ?_
          simp only [Act.put, List.setIfInBounds_toArray, List.set_cons_zero, List.set_cons_succ]
          refine h_pass 16 rfl 85 rfl (by kernel_rfl) (by kernel_rfl) (by kernel_rfl) (by kernel_rfl) (fun _ _ _ h => h) hS ?_
          simp only [Act.put, List.setIfInBounds_toArray, List.set_cons_zero, List.set_cons_succ]
          refine h_pass 17 rfl 86 rfl (by kernel_rfl) (by kernel_rfl) (by kernel_rfl) (by kernel_rfl) (fun _ _ _ h => h) hS ?_
          simp only [Act.put, List.setIfInBounds_toArray, List.set_cons_zero, List.set_cons_succ]
          refine h_pass 18 rfl 87 rfl (by kernel_rfl) (by kernel_rfl) (by kernel_rfl) (by kernel_rfl) (fun _ _ _ h => h) hS ?_
          simp only [Act.put, List.setIfInBounds_toArray, List.set_cons_zero, List.set_cons_succ]
          refine h_take 19 (.bool true) rfl 88 rfl (by kernel_rfl) (by kernel_rfl) (by kernel_rfl) (by kernel_rfl) (fun _ _ _ h => h) (fun w' _ => by kernel_rfl) hS ?_
          simp only [Act.put, List.setIfInBounds_toArray, List.set_cons_zero, List.set_cons_succ]
          refine h_take 20 (.bool true) rfl 4 rfl (by kernel_rfl) (by kernel_rfl) (by kernel_rfl) (by kernel_rfl) (fun _ _ _ h => h) (fun w' _ => by kernel_rfl) hS ?_
          simp only [Act.put, List.setIfInBounds_toArray, List.set_cons_zero, List.set_cons_succ]
          refine wpAnyH_done (by kernel_rfl) ?_ _
          have belE := below_step bel201 bel201.size hS
          go_wp2_with fail
          go_ret
          exact ⟨rfl, belE⟩
        · have E : Hid (¬ a = b) := Lib.hid hab; clear hab
          refine wp_region_held (S := fun w' => Below y201.heap.size y201 w') (by kernel_rfl) ?_
          change wpAnyH _ _ _ _ _ _ _ _ y201.drew
          have hS : Below y201.heap.size y201 y201.drew := (Below.refl _ _).drew
          generalize y201.drew = yz at hS ⊢
          refine h_take 0 (.agg (scs a).toArray) rfl 69 rfl (by kernel_rfl) (by kernel_rfl) (by kernel_rfl) (by kernel_rfl) (fun _ _ _ h => h) (fun w' hC => run_op_load _ _ rfl A 0 rfl (scs a) ((Has.refl _).range (rA201.old hC)) (sz_sta KA.out)) hS ?_
          simp only [Act.put, List.setIfInBounds_toArray, List.set_cons_zero, List.set_cons_succ]
          refine h_take 1 (.agg (scs b).toArray) rfl 70 rfl (by kernel_rfl) (by kernel_rfl) (by kernel_rfl) (by kernel_rfl) (fun _ _ _ h => h) (fun w' hC => run_op_load _ _ rfl B 0 rfl (scs b) ((Has.refl _).range (rB201.old hC)) (sz_sta KB.out)) hS ?_
          simp only [Act.put, List.setIfInBounds_toArray, List.set_cons_zero, List.set_cons_succ]
          refine h_take 2 (.bool false) rfl 71 rfl (by kernel_rfl) (by kernel_rfl) (by kernel_rfl) (by kernel_rfl) (fun _ _ _ h => h) (fun w' _ => run_op_eqlS KA.out KB.out _ _ _ rfl rfl rfl false (Lk.same_iff KA.out KB.out ⟨fun h => absurd h Bool.false_ne_true, fun h => absurd h (show ¬ a = b from E.out)⟩) w') hS ?_
          simp only [Act.put, List.setIfInBounds_toArray, List.set_cons_zero, List.set_cons_succ]
          refine h_take 3 (.bool false) rfl 72 rfl (by kernel_rfl) (by kernel_rfl) (by kernel_rfl) (by kernel_rfl) (fun _ _ _ h => h) (fun w' _ => by kernel_rfl) hS ?_
          simp only [Act.put, List.setIfInBounds_toArray, List.set_cons_zero, List.set_cons_succ]
          refine h_take 4 (.agg (scs a).toArray) rfl 73 rfl (by kernel_rfl) (by kernel_rfl) (by kernel_rfl) (by kernel_rfl) (fun _ _ _ h => h) (fun w' hC => run_op_load _ _ rfl A 0 rfl (scs a) ((Has.refl _).range (rA201.old hC)) (sz_sta KA.out)) hS ?_
          simp only [Act.put, List.setIfInBounds_toArray, List.set_cons_zero, List.set_cons_succ]
          refine h_take 6 (.agg (scs b).toArray) rfl 75 rfl (by kernel_rfl) (by kernel_rfl) (by kernel_rfl) (by kernel_rfl) (fun _ _ _ h => h) (fun w' hC => run_op_load _ _ rfl B 0 rfl (scs b) ((Has.refl _).range (rB201.old hC)) (sz_sta KB.out)) hS ?_
          simp only [Act.put, List.setIfInBounds_toArray, List.set_cons_zero, List.set_cons_succ]
          refine h_one (i := 5) (by kernel_rfl) (o_call rfl 74 rfl (by kernel_rfl) (run_op_call 11 _ _ rfl #[.agg (scs a).toArray] (by simp only [List.map_toArray, List.map_cons, List.map_nil]; rfl) Tryd.func11 (by kernel_rfl) (by kernel_rfl) _) (H1.out yz (HKW.out _ (below_step bel201 bel201.size hS))) ?_)
          rintro e yz1 ⟨rfl, hB⟩
          have hS1 : Below y201.heap.size y201 yz1 := below_step hS hS.size hB
          clear hB hS
          refine ⟨_, rfl, hS1, ?_⟩
          simp only [Act.put, List.setIfInBounds_toArray, List.set_cons_zero, List.set_cons_succ]
          refine h_one (i := 7) (by kernel_rfl) (o_call rfl 76 rfl (by kernel_rfl) (run_op_call 11 _ _ rfl #[.agg (scs b).toArray] (by simp only [List.map_toArray, List.map_cons, List.map_nil]; rfl) Tryd.func11 (by kernel_rfl) (by kernel_rfl) _) (H2.out yz1 (HKW.out _ (below_step bel201 bel201.size hS1))) ?_)
          rintro e yz2 ⟨rfl, hB⟩
          have hS2 : Below y201.heap.size y201 yz2 := below_step hS1 hS1.size hB
          clear hB hS1
          refine ⟨_, rfl, hS2, ?_⟩
          simp only [Act.put, List.setIfInBounds_toArray, List.set_cons_zero, List.set_cons_succ]
          refine h_take 8 (.bool true) rfl 77 rfl (by kernel_rfl) (by kernel_rfl) (by kernel_rfl) (by kernel_rfl) (fun _ _ _ h => h) (fun w' _ => run_op_eqlD K1.out K2.out _ _ _ rfl rfl rfl true ⟨fun _ => HD.out, fun _ => rfl⟩ w') hS2 ?_
          simp only [Act.put, List.setIfInBounds_toArray, List.set_cons_zero, List.set_cons_succ]
          refine h_take 9 (.bool true) rfl 78 rfl (by kernel_rfl) (by kernel_rfl) (by kernel_rfl) (by kernel_rfl) (fun _ _ _ h => h) (fun w' _ => by kernel_rfl) hS2 ?_
          simp only [Act.put, List.setIfInBounds_toArray, List.set_cons_zero, List.set_cons_succ]
          refine h_take 10 (.bool true) rfl 79 rfl (by kernel_rfl) (by kernel_rfl) (by kernel_rfl) (by kernel_rfl) (fun _ _ _ h => h) (fun w' _ => by kernel_rfl) hS2 ?_
          simp only [Act.put, List.setIfInBounds_toArray, List.set_cons_zero, List.set_cons_succ]
          refine h_pass 11 rfl 80 rfl (by kernel_rfl) (by kernel_rfl) (by kernel_rfl) (by kernel_rfl) (fun _ _ _ h => h) hS2 ?_
          simp only [Act.put, List.setIfInBounds_toArray, List.set_cons_zero, List.set_cons_succ]
          refine h_pass 12 rfl 81 rfl (by kernel_rfl) (by kernel_rfl) (by kernel_rfl) (by kernel_rfl) (fun _ _ _ h => h) hS2 ?_
          simp only [Act.put, List.setIfInBounds_toArray, List.set_cons_zero, List.set_cons_succ]
          refine h_pass 13 rfl 82 rfl (by kernel_rfl) (by kernel_rfl) (by kernel_rfl) (by kernel_rfl) (fun _ _ _ h => h) hS2 ?_
          simp only [Act.put, List.setIfInBounds_toArray, List.set_cons_zero, List.set_cons_succ]
          refine h_take 14 (.bool true) rfl 83 rfl (by kernel_rfl) (by kernel_rfl) (by kernel_rfl) (by kernel_rfl) (fun _ _ _ h => h) (fun w' _ => by kernel_rfl) hS2 ?_
          simp only [Act.put, List.setIfInBounds_toArray, List.set_cons_zero, List.set_cons_succ]
          refine h_take 15 (.bool true) rfl 84 rfl (by kernel_rfl) (by kernel_rfl) (by kernel_rfl) (by kernel_rfl) (fun _ _ _ h => h) (fun w' _ => by kernel_rfl) hS2 ?_
          simp only [Act.put, List.setIfInBounds_toArray, List.set_cons_zero, List.set_cons_succ]
          refine h_pass 16 rfl 85 rfl (by kernel_rfl) (by kernel_rfl) (by kernel_rfl) (by kernel_rfl) (fun _ _ _ h => h) hS2 ?_
          simp only [Act.put, List.setIfInBounds_toArray, List.set_cons_zero, List.set_cons_succ]
          refine h_pass 17 rfl 86 rfl (by kernel_rfl) (by kernel_rfl) (by kernel_rfl) (by kernel_rfl) (fun _ _ _ h => h) hS2 ?_
          simp only [Act.put, List.setIfInBounds_toArray, List.set_cons_zero, List.set_cons_succ]
          refine h_pass 18 rfl 87 rfl (by kernel_rfl) (by kernel_rfl) (by kernel_rfl) (by kernel_rfl) (fun _ _ _ h => h) hS2 ?_
          simp only [Act.put, List.setIfInBounds_toArray, List.set_cons_zero, List.set_cons_succ]
          refine h_take 19 (.bool true) rfl 88 rfl (by kernel_rfl) (by kernel_rfl) (by kernel_rfl) (by kernel_rfl) (fun _ _ _ h => h) (fun w' _ => by kernel_rfl) hS2 ?_
          simp only [Act.put, List.setIfInBounds_toArray, List.set_cons_zero, List.set_cons_succ]
          refine h_take 20 (.bool true) rfl 4 rfl (by kernel_rfl) (by kernel_rfl) (by kernel_rfl) (by kernel_rfl) (fun _ _ _ h => h) (fun w' _ => by kernel_rfl) hS2 ?_
          simp only [Act.put, List.setIfInBounds_toArray, List.set_cons_zero, List.set_cons_succ]
          refine wpAnyH_done (by kernel_rfl) ?_ _
          have belE := below_step bel201 bel201.size hS2
          go_wp2_with fail
          go_ret
          exact ⟨rfl, belE⟩
  · rw [decide_eq_false hr] at CRt
    clear hr ka kb
    go_enter Tryd.func3, Tryd.ntmps3
    go_wp2_with (first
      | ((with_reducible refine at_slot 2 ?_); (refine arm_box (o := ⟨some 2, _, _, _, _, _⟩) rfl _ _ rfl (scs a) rfl ?_); intro A v1 Ae hv1 nv1)
      | ((with_reducible refine at_slot 3 ?_); (refine arm_box (o := ⟨some 3, _, _, _, _, _⟩) rfl _ _ rfl (scs b) rfl ?_); intro B v2 Be hv2 nv2))
    have q0 := Ae.out
    have q1 := nv1.size
    have q2 := Be.out
    have q3 := nv2.size
    have lA : w.heap.size ≤ A := by omega
    have lB : w.heap.size ≤ B := by omega
    have nAB : A ≠ B := by omega
    have nBA : B ≠ A := by omega
    have rA3 : Row v2 A 35 (scs a) := (hv1.old nv2.below)
    have rB3 : Row v2 B 35 (scs b) := hv2
    have bel3 : Below w.heap.size w v2 := (below_step (below_step (Below.refl _ _) (by omega) nv1.below) (by omega) nv2.below)
    clear q0 q1 q2 q3 Ae hv1 nv1 Be hv2 nv2
    refine (CA.out _ (HKW.out _ bel3)).mono ?_
    rintro e y4 ⟨rfl, hB⟩
    have rA4 : Row y4 A 35 (scs a) := rA3.old hB
    have rB4 : Row y4 B 35 (scs b) := rB3.old hB
    have bel4 : Below w.heap.size w y4 := below_step bel3 bel3.size hB
    clear hB rA3 rB3 bel3
    go_wp2_with (first
      | ((with_reducible refine at_slot 11 ?_); (refine arm_load (o := ⟨some 11, _, _, _, _, _⟩) rfl _ _ rfl A 0 rfl (scs a) ((show Has (scs a) 0 (scs a) from Has.refl _).range (rA4)) (sz_sta KA.out) ?_))
      | ((with_reducible refine at_slot 12 ?_); (refine arm_load (o := ⟨some 12, _, _, _, _, _⟩) rfl _ _ rfl B 0 rfl (scs b) ((show Has (scs b) 0 (scs b) from Has.refl _).range (rB4)) (sz_sta KB.out) ?_))
      | ((with_reducible refine at_slot 13 ?_); (refine arm_lit (K := kS) (o := ⟨some 13, _, _, _, _, _⟩) rfl fS [a, b] O2.out (by simp) _ _ rfl rfl (by simp only [List.map_toArray, List.map_cons, List.map_nil]; rfl) ?_); intro Q v5 Qe hv5 nv5))
    have q0 := Qe.out
    have q1 := nv5.size
    have q2 := rA4.lt
    have q3 := rB4.lt
    have q4 := bel4.size
    have lQ : w.heap.size ≤ Q := by omega
    have nAQ : A ≠ Q := by omega
    have nQA : Q ≠ A := by omega
    have nBQ : B ≠ Q := by omega
    have nQB : Q ≠ B := by omega
    have rA6 : Row v5 A 35 (scs a) := (rA4.old nv5.below)
    have rB6 : Row v5 B 35 (scs b) := (rB4.old nv5.below)
    have rQ6 : Row v5 Q kS.t (kS.all [a, b]) := hv5
    have bel6 : Below w.heap.size w v5 := (below_step bel4 (by omega) nv5.below)
    clear q0 q1 q2 q3 q4 rA4 rB4 bel4 Qe hv5 nv5
    refine (CRt.out _ Q (At.row fS O2.out rQ6 (List.append_nil _).symm)).mono ?_
    rintro e y7 ⟨rfl, hB⟩
    have rA7 : Row y7 A 35 (scs a) := rA6.old hB
    have rB7 : Row y7 B 35 (scs b) := rB6.old hB
    have rQ7 : Row y7 Q kS.t (kS.all [a, b]) := rQ6.old hB
    have bel7 : Below w.heap.size w y7 := below_step bel6 bel6.size hB
    clear hB rA6 rB6 rQ6 bel6
    clear rQ7
    go_wp2_with fail
    go_ret
    exact ⟨rfl, bel7⟩
end Go.Proofs.YtffpifljeeikfaaDoor.Cz
