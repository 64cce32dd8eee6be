/-
  The contract of layer 13's awake: the calls whose answers the document fixes answer so: it returns true. Over this seat's translation.
-/
import Derived.Test.YtffpifljeeikfaaGreatDoorChoAwk
import Derived.Test.YtffpifljeeikfaaGreatDoorChoLeaf
import Derived.Test.YtffpifljeeikfaaGreatDoorGroAll
import Derived.Test.YtffpifljeeikfaaGreatDoorSlisAll
namespace Go.Proofs.YtffpifljeeikfaaGreatDoor.Cz
open Go.ChangeShapes Go.WideShapes Go.ChangeAt Go.RowKit Go.Proofs.YtffpifljeeikfaaGreatDoor.Mem Go.Proofs.YtffpifljeeikfaaGreatDoor.Bt Go.Proofs.YtffpifljeeikfaaGreatDoor.Sa Go.Proofs.YtffpifljeeikfaaGreatDoor.Sl
open Go.Proofs.YtffpifljeeikfaaGreatDoor.Od (Ky kcs kcmp kval keyN keyN_ok cmpN_neg cmpN_pos sz_key)
open Go.Proofs.YtffpifljeeikfaaGreatDoor.Lk (kS fS)
open Go.Proofs.YtffpifljeeikfaaGreatDoor.Wn (wcs WRt)
open Go.Proofs.YtffpifljeeikfaaGreatDoor.Ep (H32 zh zh_ok num32 Has h_len one_app one_num szH zH fitH allH)
open Go.Proofs.YtffpifljeeikfaaGreatDoor.Sha (ks)
set_option linter.unusedVariables false
set_option linter.unusedSimpArgs false

open Go.Proofs.YtffpifljeeikfaaGreatDoor.Gr
set_option maxHeartbeats 4000000 in
set_option maxRecDepth 100000 in
theorem awake_any (w : World) (hk : w.rangeAt 0 0 (u32s ks)) :
    Calls Tryz.prog 4 #[] w fun e w' => e = .returned (.bool true) ∧ Below w.heap.size w w' := by
  have hk1 : 0 < w.heap.size := range_lt hk (by simp [u32s, ks])
  have HKW : Hid (∀ w', Below w.heap.size w w' → w'.rangeAt 0 0 (u32s ks)) := Lib.hid fun w' hb => range_block hk (hb.block _ hk1)
  clear hk hk1
  obtain ⟨y, hy⟩ : ∃ y, y = hn 1 := ⟨_, rfl⟩
  have BY := Lib.hid (show Tryz.prog.built 23 [(0, .int .u8 1)] = some (u8s y).toArray by rw [hy]; kernel_rfl)
  have B3 := Lib.hid (show Tryz.prog.built 64 [(0, .int .u32 3)] = some (gcs b3).toArray by kernel_rfl)
  have B5 := Lib.hid (show Tryz.prog.built 64 [(0, .int .u32 5), (2, .agg (u8s y).toArray)] = some (gcs b5).toArray by rw [hy]; kernel_rfl)
  have B100 := Lib.hid (show Tryz.prog.built 64 [(0, .int .u32 100)] = some (gcs b100).toArray by kernel_rfl)
  obtain ⟨a, b, f, W⟩ := awk_is
  have CG := Lib.hid (fun w0 => sgenesis_any y w0 (by rw [hy]; exact hn_ok (by decide)))
  rw [show genS y = g1 by rw [hy]; rfl] at CG
  clear hy
  have CA := Lib.hid (fun w0 h => child_any g1 b3 w0 W.kg W.rg b3_ok h)
  rw [W.ga.1, W.ga.2] at CA
  have CB := Lib.hid (fun w0 h => child_any g1 b5 w0 W.kg W.rg b5_ok h)
  rw [W.gb.1, W.gb.2] at CB
  have CF0 := Lib.hid (fun w0 h => child_any g1 b100 w0 W.kg W.rg b100_ok h)
  rw [W.gf.1, W.gf.2] at CF0
  generalize b3 = x3 at *
  generalize b5 = x5 at *
  generalize b100 = x100 at *
  have CD := Lib.hid (fun w0 => dens_any a f w0 W.ka W.kf W.ra W.rf)
  rw [W.da, W.df] at CD
  have CF : Hid (∀ w0 Q, At kS w0 (some ⟨Q, 0, none⟩) [a, b, a] → w0.rangeAt 0 0 (u32s ks) → Calls Tryz.prog 9 #[.agg (scs g1).toArray, .slice (some ⟨Q, 0, none⟩) 3 3] w0 fun e w' => e = .returned (.tuple #[.agg (scs b).toArray, .int .i64 2]) ∧ Below w0.heap.size w0 w') := Lib.hid fun w0 Q h hk => by
    have c := fold_any g1 [a, b, a] (some ⟨Q, 0, none⟩) 3 w0 W.kg W.rg h (fun s hs => by
      simp only [List.mem_cons, List.not_mem_nil, or_false] at hs
      rcases hs with rfl | rfl | rfl
      · exact W.ra
      · exact W.rb
      · exact W.ra) (by simp) hk
    rw [W.fo] at c
    exact c
  have N1 := Lib.hid (fun w0 => near_any a b w0 W.ka W.kb)
  rw [decide_eq_true W.nab] at N1
  have N2 := Lib.hid (fun w0 => near_any a f w0 W.ka W.kf)
  rw [decide_eq_false W.naf] at N2
  have W1 := Lib.hid (fun w0 h => wins_any g1 a w0 W.kg W.ka W.rg W.ra h)
  rw [decide_eq_true W.wga] at W1
  have W2 := Lib.hid (fun w0 h => wins_any a g1 w0 W.ka W.kg W.ra W.rg h)
  rw [decide_eq_false W.wag] at W2
  have W3 := Lib.hid (fun w0 h => wins_any a b w0 W.ka W.kb W.ra W.rb h)
  rw [decide_eq_true W.wab] at W3
  have W4 := Lib.hid (fun w0 h => wins_any b a w0 W.kb W.ka W.rb W.ra h)
  rw [decide_eq_false W.wba] at W4
  have W5 := Lib.hid (fun w0 h => wins_any a f w0 W.ka W.kf W.ra W.rf h)
  have W6 := Lib.hid (fun w0 h => wins_any f a w0 W.kf W.ka W.rf W.ra h)
  obtain ⟨p, q, hp, hq, hpq⟩ : ∃ p q : Bool, p = decide (winP a f) ∧ q = decide (winP f a) ∧ (!(p == q)) = true := ⟨_, _, rfl, rfl, by
    rcases W.wx with ⟨h, g⟩ | ⟨h, g⟩
    · rw [decide_eq_true h, decide_eq_false g]; rfl
    · rw [decide_eq_false h, decide_eq_true g]; rfl⟩
  rw [← hp] at W5
  rw [← hq] at W6
  have HPQ := Lib.hid hpq
  clear hp hq hpq
  have KG := Lib.hid W.kg; have KA := Lib.hid W.ka; have KB := Lib.hid W.kb; have KF := Lib.hid W.kf
  clear W
  generalize g1 = g at *
  have O3 : Hid (kS.AllOk [a, b, a]) := Lib.hid (allOk_cons KA.out (allOk_cons KB.out (allOk_cons KA.out allOk_nil)))
  go_enter Tryz.func4, Tryz.ntmps4
  go_wp2_with (first
    | ((with_reducible refine at_slot 12 ?_); (refine arm_build (o := ⟨some 12, _, _, _, _, _⟩) rfl _ _ rfl (u8s y) (by simp only [List.map_toArray, List.map_cons, List.map_nil]; exact BY.out) ?_); try simp only [Act.put, List.setIfInBounds_toArray, List.set_cons_zero, List.set_cons_succ]))
  refine (CG.out _).mono ?_
  rintro e y1 ⟨rfl, hB⟩
  have bel1 : Below w.heap.size w y1 := hB
  skip
  go_wp2_with (first
    | ((with_reducible refine at_slot 1 ?_); (refine arm_alloc (o := ⟨some 1, _, _, _, _, _⟩) rfl _ rfl (scs zs) z_sta ?_); intro G v2 Ge hv2 nv2; try simp only [Act.put, List.setIfInBounds_toArray, List.set_cons_zero, List.set_cons_succ])
    | ((with_reducible refine arm_store (o := ⟨none, _, _, _, _, _⟩) rfl _ _ _ rfl G 0 rfl (scs g) rfl _ _ (hv2) (fitS KG.out) (scs_one _) (sz_sta KG.out) ?_); intro v3 hv3 ov3 sv3; try simp only [Act.put, List.setIfInBounds_toArray, List.set_cons_zero, List.set_cons_succ])
    | ((with_reducible refine at_slot 15 ?_); (refine arm_load (o := ⟨some 15, _, _, _, _, _⟩) rfl _ _ rfl G 0 rfl (scs g) ((show Has (scs g) 0 (scs g) from Has.refl _).range ((hv3.congr (allS KG.out)))) (sz_sta KG.out) ?_); try simp only [Act.put, List.setIfInBounds_toArray, List.set_cons_zero, List.set_cons_succ])
    | ((with_reducible refine at_slot 16 ?_); (refine arm_build (o := ⟨some 16, _, _, _, _, _⟩) rfl _ _ rfl (gcs x3) (by simp only [List.map_toArray, List.map_cons, List.map_nil]; exact B3.out) ?_); try simp only [Act.put, List.setIfInBounds_toArray, List.set_cons_zero, List.set_cons_succ]))
  have q0 := Ge.out
  have q1 := nv2.size
  have q2 := sv3.out
  have q3 := bel1.size
  have lG : w.heap.size ≤ G := by omega
  have rG4 : Row v3 G 35 (scs g) := (hv3.congr (allS KG.out))
  have bel4 : Below w.heap.size w v3 := (below_only (below_step bel1 (by omega) nv2.below) ov3 lG (by omega))
  clear q0 q1 q2 q3 bel1 Ge hv2 nv2 hv3 ov3 sv3
  refine (CA.out _ (HKW.out _ bel4)).mono ?_
  rintro e y5 ⟨rfl, hB⟩
  have rG5 : Row y5 G 35 (scs g) := rG4.old hB
  have bel5 : Below w.heap.size w y5 := below_step bel4 bel4.size hB
  clear hB rG4 bel4
  go_wp2_with (first
    | ((with_reducible refine at_slot 2 ?_); (refine arm_alloc (o := ⟨some 2, _, _, _, _, _⟩) rfl _ rfl (scs zs) z_sta ?_); intro A v6 Ae hv6 nv6; try simp only [Act.put, List.setIfInBounds_toArray, List.set_cons_zero, List.set_cons_succ])
    | ((with_reducible refine arm_store (o := ⟨none, _, _, _, _, _⟩) rfl _ _ _ rfl A 0 rfl (scs a) rfl _ _ (hv6) (fitS KA.out) (scs_one _) (sz_sta KA.out) ?_); intro v7 hv7 ov7 sv7; try simp only [Act.put, List.setIfInBounds_toArray, List.set_cons_zero, List.set_cons_succ])
    | ((with_reducible refine at_slot 21 ?_); (refine arm_load (o := ⟨some 21, _, _, _, _, _⟩) rfl _ _ rfl G 0 rfl (scs g) ((show Has (scs g) 0 (scs g) from Has.refl _).range (((rG5.old nv6.below).only ov7 (by have := rG5.lt; have := Ae.out; have := nv6.size; have := sv7.out; omega)))) (sz_sta KG.out) ?_); try simp only [Act.put, List.setIfInBounds_toArray, List.set_cons_zero, List.set_cons_succ])
    | ((with_reducible refine at_slot 22 ?_); (refine arm_build (o := ⟨some 22, _, _, _, _, _⟩) rfl _ _ rfl (u8s y) (by simp only [List.map_toArray, List.map_cons, List.map_nil]; exact BY.out) ?_); try simp only [Act.put, List.setIfInBounds_toArray, List.set_cons_zero, List.set_cons_succ])
    | ((with_reducible refine at_slot 23 ?_); (refine arm_build (o := ⟨some 23, _, _, _, _, _⟩) rfl _ _ rfl (gcs x5) (by simp only [List.map_toArray, List.map_cons, List.map_nil]; exact B5.out) ?_); try simp only [Act.put, List.setIfInBounds_toArray, List.set_cons_zero, List.set_cons_succ]))
  have q0 := Ae.out
  have q1 := nv6.size
  have q2 := sv7.out
  have q3 := rG5.lt
  have q4 := bel5.size
  have lA : w.heap.size ≤ A := by omega
  have nGA : G ≠ A := by omega
  have nAG : A ≠ G := by omega
  have rG8 : Row v7 G 35 (scs g) := ((rG5.old nv6.below).only ov7 nGA)
  have rA8 : Row v7 A 35 (scs a) := (hv7.congr (allS KA.out))
  have bel8 : Below w.heap.size w v7 := (below_only (below_step bel5 (by omega) nv6.below) ov7 lA (by omega))
  clear q0 q1 q2 q3 q4 rG5 bel5 Ae hv6 nv6 hv7 ov7 sv7
  refine (CB.out _ (HKW.out _ bel8)).mono ?_
  rintro e y9 ⟨rfl, hB⟩
  have rG9 : Row y9 G 35 (scs g) := rG8.old hB
  have rA9 : Row y9 A 35 (scs a) := rA8.old hB
  have bel9 : Below w.heap.size w y9 := below_step bel8 bel8.size hB
  clear hB rG8 rA8 bel8
  go_wp2_with (first
    | ((with_reducible refine at_slot 4 ?_); (refine arm_alloc (o := ⟨some 4, _, _, _, _, _⟩) rfl _ rfl (scs zs) z_sta ?_); intro B v10 Be hv10 nv10; try simp only [Act.put, List.setIfInBounds_toArray, List.set_cons_zero, List.set_cons_succ])
    | ((with_reducible refine arm_store (o := ⟨none, _, _, _, _, _⟩) rfl _ _ _ rfl B 0 rfl (scs b) rfl _ _ (hv10) (fitS KB.out) (scs_one _) (sz_sta KB.out) ?_); intro v11 hv11 ov11 sv11; try simp only [Act.put, List.setIfInBounds_toArray, List.set_cons_zero, List.set_cons_succ])
    | ((with_reducible refine at_slot 28 ?_); (refine arm_load (o := ⟨some 28, _, _, _, _, _⟩) rfl _ _ rfl G 0 rfl (scs g) ((show Has (scs g) 0 (scs g) from Has.refl _).range (((rG9.old nv10.below).only ov11 (by have := rG9.lt; have := Be.out; have := nv10.size; have := sv11.out; omega)))) (sz_sta KG.out) ?_); try simp only [Act.put, List.setIfInBounds_toArray, List.set_cons_zero, List.set_cons_succ])
    | ((with_reducible refine at_slot 29 ?_); (refine arm_build (o := ⟨some 29, _, _, _, _, _⟩) rfl _ _ rfl (gcs x100) (by simp only [List.map_toArray, List.map_cons, List.map_nil]; exact B100.out) ?_); try simp only [Act.put, List.setIfInBounds_toArray, List.set_cons_zero, List.set_cons_succ]))
  have q0 := Be.out
  have q1 := nv10.size
  have q2 := sv11.out
  have q3 := rG9.lt
  have q4 := rA9.lt
  have q5 := bel9.size
  have lB : w.heap.size ≤ B := by omega
  have nGB : G ≠ B := by omega
  have nBG : B ≠ G := by omega
  have nAB : A ≠ B := by omega
  have nBA : B ≠ A := by omega
  have rG12 : Row v11 G 35 (scs g) := ((rG9.old nv10.below).only ov11 nGB)
  have rA12 : Row v11 A 35 (scs a) := ((rA9.old nv10.below).only ov11 nAB)
  have rB12 : Row v11 B 35 (scs b) := (hv11.congr (allS KB.out))
  have bel12 : Below w.heap.size w v11 := (below_only (below_step bel9 (by omega) nv10.below) ov11 lB (by omega))
  clear q0 q1 q2 q3 q4 q5 rG9 rA9 bel9 Be hv10 nv10 hv11 ov11 sv11
  refine (CF0.out _ (HKW.out _ bel12)).mono ?_
  rintro e y13 ⟨rfl, hB⟩
  have rG13 : Row y13 G 35 (scs g) := rG12.old hB
  have rA13 : Row y13 A 35 (scs a) := rA12.old hB
  have rB13 : Row y13 B 35 (scs b) := rB12.old hB
  have bel13 : Below w.heap.size w y13 := below_step bel12 bel12.size hB
  clear hB rG12 rA12 rB12 bel12
  go_wp2_with (first
    | ((with_reducible refine at_slot 6 ?_); (refine arm_alloc (o := ⟨some 6, _, _, _, _, _⟩) rfl _ rfl (scs zs) z_sta ?_); intro F v14 Fe hv14 nv14; try simp only [Act.put, List.setIfInBounds_toArray, List.set_cons_zero, List.set_cons_succ])
    | ((with_reducible refine arm_store (o := ⟨none, _, _, _, _, _⟩) rfl _ _ _ rfl F 0 rfl (scs f) rfl _ _ (hv14) (fitS KF.out) (scs_one _) (sz_sta KF.out) ?_); intro v15 hv15 ov15 sv15; try simp only [Act.put, List.setIfInBounds_toArray, List.set_cons_zero, List.set_cons_succ])
    | ((with_reducible refine at_slot 34 ?_); (refine arm_load (o := ⟨some 34, _, _, _, _, _⟩) rfl _ _ rfl A 0 rfl (scs a) ((show Has (scs a) 0 (scs a) from Has.refl _).range (((rA13.old nv14.below).only ov15 (by have := rA13.lt; have := Fe.out; have := nv14.size; have := sv15.out; omega)))) (sz_sta KA.out) ?_); try simp only [Act.put, List.setIfInBounds_toArray, List.set_cons_zero, List.set_cons_succ])
    | ((with_reducible refine at_slot 35 ?_); (refine arm_load (o := ⟨some 35, _, _, _, _, _⟩) rfl _ _ rfl F 0 rfl (scs f) ((show Has (scs f) 0 (scs f) from Has.refl _).range ((hv15.congr (allS KF.out)))) (sz_sta KF.out) ?_); try simp only [Act.put, List.setIfInBounds_toArray, List.set_cons_zero, List.set_cons_succ]))
  have q0 := Fe.out
  have q1 := nv14.size
  have q2 := sv15.out
  have q3 := rG13.lt
  have q4 := rA13.lt
  have q5 := rB13.lt
  have q6 := bel13.size
  have lF : w.heap.size ≤ F := by omega
  have nGF : G ≠ F := by omega
  have nFG : F ≠ G := by omega
  have nAF : A ≠ F := by omega
  have nFA : F ≠ A := by omega
  have nBF : B ≠ F := by omega
  have nFB : F ≠ B := by omega
  have rG16 : Row v15 G 35 (scs g) := ((rG13.old nv14.below).only ov15 nGF)
  have rA16 : Row v15 A 35 (scs a) := ((rA13.old nv14.below).only ov15 nAF)
  have rB16 : Row v15 B 35 (scs b) := ((rB13.old nv14.below).only ov15 nBF)
  have rF16 : Row v15 F 35 (scs f) := (hv15.congr (allS KF.out))
  have bel16 : Below w.heap.size w v15 := (below_only (below_step bel13 (by omega) nv14.below) ov15 lF (by omega))
  clear q0 q1 q2 q3 q4 q5 q6 rG13 rA13 rB13 bel13 Fe hv14 nv14 hv15 ov15 sv15
  refine (CD.out _).mono ?_
  rintro e y17 ⟨rfl, hB⟩
  have rG17 : Row y17 G 35 (scs g) := rG16.old hB
  have rA17 : Row y17 A 35 (scs a) := rA16.old hB
  have rB17 : Row y17 B 35 (scs b) := rB16.old hB
  have rF17 : Row y17 F 35 (scs f) := rF16.old hB
  have bel17 : Below w.heap.size w y17 := below_step bel16 bel16.size hB
  clear hB rG16 rA16 rB16 rF16 bel16
  go_wp2_with (first
    | ((with_reducible refine at_slot 40 ?_); (refine arm_load (o := ⟨some 40, _, _, _, _, _⟩) rfl _ _ rfl G 0 rfl (scs g) ((show Has (scs g) 0 (scs g) from Has.refl _).range (rG17)) (sz_sta KG.out) ?_); try simp only [Act.put, List.setIfInBounds_toArray, List.set_cons_zero, List.set_cons_succ])
    | ((with_reducible refine at_slot 41 ?_); (refine arm_load (o := ⟨some 41, _, _, _, _, _⟩) rfl _ _ rfl A 0 rfl (scs a) ((show Has (scs a) 0 (scs a) from Has.refl _).range (rA17)) (sz_sta KA.out) ?_); try simp only [Act.put, List.setIfInBounds_toArray, List.set_cons_zero, List.set_cons_succ])
    | ((with_reducible refine at_slot 42 ?_); (refine arm_load (o := ⟨some 42, _, _, _, _, _⟩) rfl _ _ rfl B 0 rfl (scs b) ((show Has (scs b) 0 (scs b) from Has.refl _).range (rB17)) (sz_sta KB.out) ?_); try simp only [Act.put, List.setIfInBounds_toArray, List.set_cons_zero, List.set_cons_succ])
    | ((with_reducible refine at_slot 43 ?_); (refine arm_load (o := ⟨some 43, _, _, _, _, _⟩) rfl _ _ rfl A 0 rfl (scs a) ((show Has (scs a) 0 (scs a) from Has.refl _).range (rA17)) (sz_sta KA.out) ?_); try simp only [Act.put, List.setIfInBounds_toArray, List.set_cons_zero, List.set_cons_succ])
    | ((with_reducible refine at_slot 44 ?_); (refine arm_lit (K := kS) (o := ⟨some 44, _, _, _, _, _⟩) rfl fS [a, b, a] O3.out (by simp) _ _ rfl rfl (by simp only [List.map_toArray, List.map_cons, List.map_nil]; rfl) ?_); intro Q v18 Qe hv18 nv18; try simp only [Act.put, List.setIfInBounds_toArray, List.set_cons_zero, List.set_cons_succ]))
  have q0 := Qe.out
  have q1 := nv18.size
  have q2 := rG17.lt
  have q3 := rA17.lt
  have q4 := rB17.lt
  have q5 := rF17.lt
  have q6 := bel17.size
  have lQ : w.heap.size ≤ Q := by omega
  have nGQ : G ≠ Q := by omega
  have nQG : Q ≠ G := by omega
  have nAQ : A ≠ Q := by omega
  have nQA : Q ≠ A := by omega
  have nBQ : B ≠ Q := by omega
  have nQB : Q ≠ B := by omega
  have nFQ : F ≠ Q := by omega
  have nQF : Q ≠ F := by omega
  have rG19 : Row v18 G 35 (scs g) := (rG17.old nv18.below)
  have rA19 : Row v18 A 35 (scs a) := (rA17.old nv18.below)
  have rB19 : Row v18 B 35 (scs b) := (rB17.old nv18.below)
  have rF19 : Row v18 F 35 (scs f) := (rF17.old nv18.below)
  have rQ19 : Row v18 Q kS.t (kS.all [a, b, a]) := hv18
  have bel19 : Below w.heap.size w v18 := (below_step bel17 (by omega) nv18.below)
  clear q0 q1 q2 q3 q4 q5 q6 rG17 rA17 rB17 rF17 bel17 Qe hv18 nv18
  refine (CF.out _ Q (At.row fS O3.out rQ19 (List.append_nil _).symm) (HKW.out _ bel19)).mono ?_
  rintro e y20 ⟨rfl, hB⟩
  have rG20 : Row y20 G 35 (scs g) := rG19.old hB
  have rA20 : Row y20 A 35 (scs a) := rA19.old hB
  have rB20 : Row y20 B 35 (scs b) := rB19.old hB
  have rF20 : Row y20 F 35 (scs f) := rF19.old hB
  have rQ20 : Row y20 Q kS.t (kS.all [a, b, a]) := rQ19.old hB
  have bel20 : Below w.heap.size w y20 := below_step bel19 bel19.size hB
  clear hB rG19 rA19 rB19 rF19 rQ19 bel19
  clear rQ20
  go_wp2_with (first
    | ((with_reducible refine at_slot 10 ?_); (refine arm_alloc (o := ⟨some 10, _, _, _, _, _⟩) rfl _ rfl (scs zs) z_sta ?_); intro T v21 Te hv21 nv21; try simp only [Act.put, List.setIfInBounds_toArray, List.set_cons_zero, List.set_cons_succ])
    | ((with_reducible refine arm_store (o := ⟨none, _, _, _, _, _⟩) rfl _ _ _ rfl T 0 rfl (scs b) rfl _ _ (hv21) (fitS KB.out) (scs_one _) (sz_sta KB.out) ?_); intro v22 hv22 ov22 sv22; try simp only [Act.put, List.setIfInBounds_toArray, List.set_cons_zero, List.set_cons_succ]))
  have q0 := Te.out
  have q1 := nv21.size
  have q2 := sv22.out
  have q3 := rG20.lt
  have q4 := rA20.lt
  have q5 := rB20.lt
  have q6 := rF20.lt
  have q7 := bel20.size
  have lT : w.heap.size ≤ T := by omega
  have nGT : G ≠ T := by omega
  have nTG : T ≠ G := by omega
  have nAT : A ≠ T := by omega
  have nTA : T ≠ A := by omega
  have nBT : B ≠ T := by omega
  have nTB : T ≠ B := by omega
  have nFT : F ≠ T := by omega
  have nTF : T ≠ F := by omega
  have rG23 : Row v22 G 35 (scs g) := ((rG20.old nv21.below).only ov22 nGT)
  have rA23 : Row v22 A 35 (scs a) := ((rA20.old nv21.below).only ov22 nAT)
  have rB23 : Row v22 B 35 (scs b) := ((rB20.old nv21.below).only ov22 nBT)
  have rF23 : Row v22 F 35 (scs f) := ((rF20.old nv21.below).only ov22 nFT)
  have rT23 : Row v22 T 35 (scs b) := (hv22.congr (allS KB.out))
  have bel23 : Below w.heap.size w v22 := (below_only (below_step bel20 (by omega) nv21.below) ov22 lT (by omega))
  clear q0 q1 q2 q3 q4 q5 q6 q7 rG20 rA20 rB20 rF20 bel20 Te hv21 nv21 hv22 ov22 sv22
  refine wp_region_held (S := fun w' => Below v22.heap.size v22 w') (by kernel_rfl) ?_
  change wpAnyH _ _ _ _ _ _ _ _ v22.drew
  have hS : Below v22.heap.size v22 v22.drew := (Below.refl _ _).drew
  generalize v22.drew = yz at hS ⊢
  refine h_take 0 (.agg (scs a).toArray) rfl 48 rfl (by kernel_rfl) (by kernel_rfl) (by kernel_rfl) (by kernel_rfl) (fun _ _ _ h => h) (fun w' hC => run_op_load _ _ rfl A 0 rfl (scs a) ((Has.refl _).range (rA23.old hC)) (sz_sta KA.out)) hS ?_
  simp only [Act.put, List.setIfInBounds_toArray, List.set_cons_zero, List.set_cons_succ]
  refine h_take 1 (.agg (scs b).toArray) rfl 49 rfl (by kernel_rfl) (by kernel_rfl) (by kernel_rfl) (by kernel_rfl) (fun _ _ _ h => h) (fun w' hC => run_op_load _ _ rfl B 0 rfl (scs b) ((Has.refl _).range (rB23.old hC)) (sz_sta KB.out)) hS ?_
  simp only [Act.put, List.setIfInBounds_toArray, List.set_cons_zero, List.set_cons_succ]
  refine h_one (i := 2) (by kernel_rfl) (o_call rfl 50 rfl (by kernel_rfl) (run_op_call 11 _ _ rfl #[.agg (scs a).toArray, .agg (scs b).toArray] (by simp only [List.map_toArray, List.map_cons, List.map_nil]; rfl) Tryz.func11 (by kernel_rfl) (by kernel_rfl) _) (N1.out yz) ?_)
  rintro e yz1 ⟨rfl, hB⟩
  have hS1 : Below v22.heap.size v22 yz1 := below_step hS hS.size hB
  clear hB hS
  refine ⟨_, rfl, hS1, ?_⟩
  simp only [Act.put, List.setIfInBounds_toArray, List.set_cons_zero, List.set_cons_succ]
  refine h_take 3 (.bool true) rfl 51 rfl (by kernel_rfl) (by kernel_rfl) (by kernel_rfl) (by kernel_rfl) (fun _ _ _ h => h) (fun w' _ => by kernel_rfl) hS1 ?_
  simp only [Act.put, List.setIfInBounds_toArray, List.set_cons_zero, List.set_cons_succ]
  refine h_take 4 (.agg (scs a).toArray) rfl 52 rfl (by kernel_rfl) (by kernel_rfl) (by kernel_rfl) (by kernel_rfl) (fun _ _ _ h => h) (fun w' hC => run_op_load _ _ rfl A 0 rfl (scs a) ((Has.refl _).range (rA23.old hC)) (sz_sta KA.out)) hS1 ?_
  simp only [Act.put, List.setIfInBounds_toArray, List.set_cons_zero, List.set_cons_succ]
  refine h_take 5 (.agg (scs f).toArray) rfl 53 rfl (by kernel_rfl) (by kernel_rfl) (by kernel_rfl) (by kernel_rfl) (fun _ _ _ h => h) (fun w' hC => run_op_load _ _ rfl F 0 rfl (scs f) ((Has.refl _).range (rF23.old hC)) (sz_sta KF.out)) hS1 ?_
  simp only [Act.put, List.setIfInBounds_toArray, List.set_cons_zero, List.set_cons_succ]
  refine h_one (i := 6) (by kernel_rfl) (o_call rfl 54 rfl (by kernel_rfl) (run_op_call 11 _ _ rfl #[.agg (scs a).toArray, .agg (scs f).toArray] (by simp only [List.map_toArray, List.map_cons, List.map_nil]; rfl) Tryz.func11 (by kernel_rfl) (by kernel_rfl) _) (N2.out yz1) ?_)
  rintro e yz2 ⟨rfl, hB⟩
  have hS2 : Below v22.heap.size v22 yz2 := below_step hS1 hS1.size hB
  clear hB hS1
  refine ⟨_, rfl, hS2, ?_⟩
  simp only [Act.put, List.setIfInBounds_toArray, List.set_cons_zero, List.set_cons_succ]
  refine h_take 7 (.bool true) rfl 55 rfl (by kernel_rfl) (by kernel_rfl) (by kernel_rfl) (by kernel_rfl) (fun _ _ _ h => h) (fun w' _ => by kernel_rfl) hS2 ?_
  simp only [Act.put, List.setIfInBounds_toArray, List.set_cons_zero, List.set_cons_succ]
  refine h_take 8 (.bool true) rfl 56 rfl (by kernel_rfl) (by kernel_rfl) (by kernel_rfl) (by kernel_rfl) (fun _ _ _ h => h) (fun w' _ => by kernel_rfl) hS2 ?_
  simp only [Act.put, List.setIfInBounds_toArray, List.set_cons_zero, List.set_cons_succ]
  refine h_take 9 (.bool true) rfl 57 rfl (by kernel_rfl) (by kernel_rfl) (by kernel_rfl) (by kernel_rfl) (fun _ _ _ h => h) (fun w' _ => by kernel_rfl) hS2 ?_
  simp only [Act.put, List.setIfInBounds_toArray, List.set_cons_zero, List.set_cons_succ]
  refine h_take 10 (.agg (scs g).toArray) rfl 58 rfl (by kernel_rfl) (by kernel_rfl) (by kernel_rfl) (by kernel_rfl) (fun _ _ _ h => h) (fun w' hC => run_op_load _ _ rfl G 0 rfl (scs g) ((Has.refl _).range (rG23.old hC)) (sz_sta KG.out)) hS2 ?_
  simp only [Act.put, List.setIfInBounds_toArray, List.set_cons_zero, List.set_cons_succ]
  refine h_take 11 (.agg (scs a).toArray) rfl 59 rfl (by kernel_rfl) (by kernel_rfl) (by kernel_rfl) (by kernel_rfl) (fun _ _ _ h => h) (fun w' hC => run_op_load _ _ rfl A 0 rfl (scs a) ((Has.refl _).range (rA23.old hC)) (sz_sta KA.out)) hS2 ?_
  simp only [Act.put, List.setIfInBounds_toArray, List.set_cons_zero, List.set_cons_succ]
  refine h_one (i := 12) (by kernel_rfl) (o_call rfl 60 rfl (by kernel_rfl) (run_op_call 13 _ _ rfl #[.agg (scs g).toArray, .agg (scs a).toArray] (by simp only [List.map_toArray, List.map_cons, List.map_nil]; rfl) Tryz.func13 (by kernel_rfl) (by kernel_rfl) _) (W1.out yz2 (HKW.out _ (below_step bel23 bel23.size hS2))) ?_)
  rintro e yz3 ⟨rfl, hB⟩
  have hS3 : Below v22.heap.size v22 yz3 := below_step hS2 hS2.size hB
  clear hB hS2
  refine ⟨_, rfl, hS3, ?_⟩
  simp only [Act.put, List.setIfInBounds_toArray, List.set_cons_zero, List.set_cons_succ]
  refine h_take 13 (.bool true) rfl 61 rfl (by kernel_rfl) (by kernel_rfl) (by kernel_rfl) (by kernel_rfl) (fun _ _ _ h => h) (fun w' _ => by kernel_rfl) hS3 ?_
  simp only [Act.put, List.setIfInBounds_toArray, List.set_cons_zero, List.set_cons_succ]
  refine h_take 14 (.bool true) rfl 62 rfl (by kernel_rfl) (by kernel_rfl) (by kernel_rfl) (by kernel_rfl) (fun _ _ _ h => h) (fun w' _ => by kernel_rfl) hS3 ?_
  simp only [Act.put, List.setIfInBounds_toArray, List.set_cons_zero, List.set_cons_succ]
  refine h_take 15 (.agg (scs a).toArray) rfl 63 rfl (by kernel_rfl) (by kernel_rfl) (by kernel_rfl) (by kernel_rfl) (fun _ _ _ h => h) (fun w' hC => run_op_load _ _ rfl A 0 rfl (scs a) ((Has.refl _).range (rA23.old hC)) (sz_sta KA.out)) hS3 ?_
  simp only [Act.put, List.setIfInBounds_toArray, List.set_cons_zero, List.set_cons_succ]
  refine h_take 16 (.agg (scs g).toArray) rfl 64 rfl (by kernel_rfl) (by kernel_rfl) (by kernel_rfl) (by kernel_rfl) (fun _ _ _ h => h) (fun w' hC => run_op_load _ _ rfl G 0 rfl (scs g) ((Has.refl _).range (rG23.old hC)) (sz_sta KG.out)) hS3 ?_
  simp only [Act.put, List.setIfInBounds_toArray, List.set_cons_zero, List.set_cons_succ]
  refine h_one (i := 17) (by kernel_rfl) (o_call rfl 65 rfl (by kernel_rfl) (run_op_call 13 _ _ rfl #[.agg (scs a).toArray, .agg (scs g).toArray] (by simp only [List.map_toArray, List.map_cons, List.map_nil]; rfl) Tryz.func13 (by kernel_rfl) (by kernel_rfl) _) (W2.out yz3 (HKW.out _ (below_step bel23 bel23.size hS3))) ?_)
  rintro e yz4 ⟨rfl, hB⟩
  have hS4 : Below v22.heap.size v22 yz4 := below_step hS3 hS3.size hB
  clear hB hS3
  refine ⟨_, rfl, hS4, ?_⟩
  simp only [Act.put, List.setIfInBounds_toArray, List.set_cons_zero, List.set_cons_succ]
  refine h_take 18 (.bool true) rfl 66 rfl (by kernel_rfl) (by kernel_rfl) (by kernel_rfl) (by kernel_rfl) (fun _ _ _ h => h) (fun w' _ => by kernel_rfl) hS4 ?_
  simp only [Act.put, List.setIfInBounds_toArray, List.set_cons_zero, List.set_cons_succ]
  refine h_take 19 (.bool true) rfl 67 rfl (by kernel_rfl) (by kernel_rfl) (by kernel_rfl) (by kernel_rfl) (fun _ _ _ h => h) (fun w' _ => by kernel_rfl) hS4 ?_
  simp only [Act.put, List.setIfInBounds_toArray, List.set_cons_zero, List.set_cons_succ]
  refine h_take 20 (.bool true) rfl 68 rfl (by kernel_rfl) (by kernel_rfl) (by kernel_rfl) (by kernel_rfl) (fun _ _ _ h => h) (fun w' _ => by kernel_rfl) hS4 ?_
  simp only [Act.put, List.setIfInBounds_toArray, List.set_cons_zero, List.set_cons_succ]
  refine h_take 21 (.agg (scs a).toArray) rfl 69 rfl (by kernel_rfl) (by kernel_rfl) (by kernel_rfl) (by kernel_rfl) (fun _ _ _ h => h) (fun w' hC => run_op_load _ _ rfl A 0 rfl (scs a) ((Has.refl _).range (rA23.old hC)) (sz_sta KA.out)) hS4 ?_
  simp only [Act.put, List.setIfInBounds_toArray, List.set_cons_zero, List.set_cons_succ]
  refine h_take 22 (.agg (scs b).toArray) rfl 70 rfl (by kernel_rfl) (by kernel_rfl) (by kernel_rfl) (by kernel_rfl) (fun _ _ _ h => h) (fun w' hC => run_op_load _ _ rfl B 0 rfl (scs b) ((Has.refl _).range (rB23.old hC)) (sz_sta KB.out)) hS4 ?_
  simp only [Act.put, List.setIfInBounds_toArray, List.set_cons_zero, List.set_cons_succ]
  refine h_one (i := 23) (by kernel_rfl) (o_call rfl 71 rfl (by kernel_rfl) (run_op_call 13 _ _ rfl #[.agg (scs a).toArray, .agg (scs b).toArray] (by simp only [List.map_toArray, List.map_cons, List.map_nil]; rfl) Tryz.func13 (by kernel_rfl) (by kernel_rfl) _) (W3.out yz4 (HKW.out _ (below_step bel23 bel23.size hS4))) ?_)
  rintro e yz5 ⟨rfl, hB⟩
  have hS5 : Below v22.heap.size v22 yz5 := below_step hS4 hS4.size hB
  clear hB hS4
  refine ⟨_, rfl, hS5, ?_⟩
  simp only [Act.put, List.setIfInBounds_toArray, List.set_cons_zero, List.set_cons_succ]
  refine h_take 24 (.bool true) rfl 72 rfl (by kernel_rfl) (by kernel_rfl) (by kernel_rfl) (by kernel_rfl) (fun _ _ _ h => h) (fun w' _ => by kernel_rfl) hS5 ?_
  simp only [Act.put, List.setIfInBounds_toArray, List.set_cons_zero, List.set_cons_succ]
  refine h_take 25 (.bool true) rfl 73 rfl (by kernel_rfl) (by kernel_rfl) (by kernel_rfl) (by kernel_rfl) (fun _ _ _ h => h) (fun w' _ => by kernel_rfl) hS5 ?_
  simp only [Act.put, List.setIfInBounds_toArray, List.set_cons_zero, List.set_cons_succ]
  refine h_take 26 (.agg (scs b).toArray) rfl 74 rfl (by kernel_rfl) (by kernel_rfl) (by kernel_rfl) (by kernel_rfl) (fun _ _ _ h => h) (fun w' hC => run_op_load _ _ rfl B 0 rfl (scs b) ((Has.refl _).range (rB23.old hC)) (sz_sta KB.out)) hS5 ?_
  simp only [Act.put, List.setIfInBounds_toArray, List.set_cons_zero, List.set_cons_succ]
  refine h_take 27 (.agg (scs a).toArray) rfl 75 rfl (by kernel_rfl) (by kernel_rfl) (by kernel_rfl) (by kernel_rfl) (fun _ _ _ h => h) (fun w' hC => run_op_load _ _ rfl A 0 rfl (scs a) ((Has.refl _).range (rA23.old hC)) (sz_sta KA.out)) hS5 ?_
  simp only [Act.put, List.setIfInBounds_toArray, List.set_cons_zero, List.set_cons_succ]
  refine h_one (i := 28) (by kernel_rfl) (o_call rfl 76 rfl (by kernel_rfl) (run_op_call 13 _ _ rfl #[.agg (scs b).toArray, .agg (scs a).toArray] (by simp only [List.map_toArray, List.map_cons, List.map_nil]; rfl) Tryz.func13 (by kernel_rfl) (by kernel_rfl) _) (W4.out yz5 (HKW.out _ (below_step bel23 bel23.size hS5))) ?_)
  rintro e yz6 ⟨rfl, hB⟩
  have hS6 : Below v22.heap.size v22 yz6 := below_step hS5 hS5.size hB
  clear hB hS5
  refine ⟨_, rfl, hS6, ?_⟩
  simp only [Act.put, List.setIfInBounds_toArray, List.set_cons_zero, List.set_cons_succ]
  refine h_take 29 (.bool true) rfl 77 rfl (by kernel_rfl) (by kernel_rfl) (by kernel_rfl) (by kernel_rfl) (fun _ _ _ h => h) (fun w' _ => by kernel_rfl) hS6 ?_
  simp only [Act.put, List.setIfInBounds_toArray, List.set_cons_zero, List.set_cons_succ]
  refine h_take 30 (.bool true) rfl 78 rfl (by kernel_rfl) (by kernel_rfl) (by kernel_rfl) (by kernel_rfl) (fun _ _ _ h => h) (fun w' _ => by kernel_rfl) hS6 ?_
  simp only [Act.put, List.setIfInBounds_toArray, List.set_cons_zero, List.set_cons_succ]
  refine h_take 31 (.bool true) rfl 79 rfl (by kernel_rfl) (by kernel_rfl) (by kernel_rfl) (by kernel_rfl) (fun _ _ _ h => h) (fun w' _ => by kernel_rfl) hS6 ?_
  simp only [Act.put, List.setIfInBounds_toArray, List.set_cons_zero, List.set_cons_succ]
  refine h_take 32 (.int .u32 0) rfl 80 rfl (by kernel_rfl) (by kernel_rfl) (by kernel_rfl) (by kernel_rfl) (fun _ _ _ h => h) (fun w' _ => by kernel_rfl) hS6 ?_
  simp only [Act.put, List.setIfInBounds_toArray, List.set_cons_zero, List.set_cons_succ]
  refine h_take 33 (.bool true) rfl 81 rfl (by kernel_rfl) (by kernel_rfl) (by kernel_rfl) (by kernel_rfl) (fun _ _ _ h => h) (fun w' _ => cmp_eql _ _ .u32 (by kernel_rfl) _ _ rfl .u32 0 0 rfl rfl true (decide_eq_true rfl) w') hS6 ?_
  simp only [Act.put, List.setIfInBounds_toArray, List.set_cons_zero, List.set_cons_succ]
  refine h_take 34 (.bool true) rfl 82 rfl (by kernel_rfl) (by kernel_rfl) (by kernel_rfl) (by kernel_rfl) (fun _ _ _ h => h) (fun w' _ => by kernel_rfl) hS6 ?_
  simp only [Act.put, List.setIfInBounds_toArray, List.set_cons_zero, List.set_cons_succ]
  refine h_take 35 (.bool true) rfl 83 rfl (by kernel_rfl) (by kernel_rfl) (by kernel_rfl) (by kernel_rfl) (fun _ _ _ h => h) (fun w' _ => by kernel_rfl) hS6 ?_
  simp only [Act.put, List.setIfInBounds_toArray, List.set_cons_zero, List.set_cons_succ]
  refine h_take 36 (.int .u32 0) rfl 84 rfl (by kernel_rfl) (by kernel_rfl) (by kernel_rfl) (by kernel_rfl) (fun _ _ _ h => h) (fun w' _ => by kernel_rfl) hS6 ?_
  simp only [Act.put, List.setIfInBounds_toArray, List.set_cons_zero, List.set_cons_succ]
  refine h_take 37 (.bool true) rfl 85 rfl (by kernel_rfl) (by kernel_rfl) (by kernel_rfl) (by kernel_rfl) (fun _ _ _ h => h) (fun w' _ => cmp_eql _ _ .u32 (by kernel_rfl) _ _ rfl .u32 0 0 rfl rfl true (decide_eq_true rfl) w') hS6 ?_
  simp only [Act.put, List.setIfInBounds_toArray, List.set_cons_zero, List.set_cons_succ]
  refine h_take 38 (.bool true) rfl 86 rfl (by kernel_rfl) (by kernel_rfl) (by kernel_rfl) (by kernel_rfl) (fun _ _ _ h => h) (fun w' _ => by kernel_rfl) hS6 ?_
  simp only [Act.put, List.setIfInBounds_toArray, List.set_cons_zero, List.set_cons_succ]
  refine h_take 39 (.bool true) rfl 87 rfl (by kernel_rfl) (by kernel_rfl) (by kernel_rfl) (by kernel_rfl) (fun _ _ _ h => h) (fun w' _ => by kernel_rfl) hS6 ?_
  simp only [Act.put, List.setIfInBounds_toArray, List.set_cons_zero, List.set_cons_succ]
  refine h_take 40 (.agg (scs a).toArray) rfl 88 rfl (by kernel_rfl) (by kernel_rfl) (by kernel_rfl) (by kernel_rfl) (fun _ _ _ h => h) (fun w' hC => run_op_load _ _ rfl A 0 rfl (scs a) ((Has.refl _).range (rA23.old hC)) (sz_sta KA.out)) hS6 ?_
  simp only [Act.put, List.setIfInBounds_toArray, List.set_cons_zero, List.set_cons_succ]
  refine h_take 41 (.agg (scs f).toArray) rfl 89 rfl (by kernel_rfl) (by kernel_rfl) (by kernel_rfl) (by kernel_rfl) (fun _ _ _ h => h) (fun w' hC => run_op_load _ _ rfl F 0 rfl (scs f) ((Has.refl _).range (rF23.old hC)) (sz_sta KF.out)) hS6 ?_
  simp only [Act.put, List.setIfInBounds_toArray, List.set_cons_zero, List.set_cons_succ]
  refine h_take 43 (.agg (scs f).toArray) rfl 91 rfl (by kernel_rfl) (by kernel_rfl) (by kernel_rfl) (by kernel_rfl) (fun _ _ _ h => h) (fun w' hC => run_op_load _ _ rfl F 0 rfl (scs f) ((Has.refl _).range (rF23.old hC)) (sz_sta KF.out)) hS6 ?_
  simp only [Act.put, List.setIfInBounds_toArray, List.set_cons_zero, List.set_cons_succ]
  refine h_take 44 (.agg (scs a).toArray) rfl 92 rfl (by kernel_rfl) (by kernel_rfl) (by kernel_rfl) (by kernel_rfl) (fun _ _ _ h => h) (fun w' hC => run_op_load _ _ rfl A 0 rfl (scs a) ((Has.refl _).range (rA23.old hC)) (sz_sta KA.out)) hS6 ?_
  simp only [Act.put, List.setIfInBounds_toArray, List.set_cons_zero, List.set_cons_succ]
  refine h_one (i := 42) (by kernel_rfl) (o_call rfl 90 rfl (by kernel_rfl) (run_op_call 13 _ _ rfl #[.agg (scs a).toArray, .agg (scs f).toArray] (by simp only [List.map_toArray, List.map_cons, List.map_nil]; rfl) Tryz.func13 (by kernel_rfl) (by kernel_rfl) _) (W5.out yz6 (HKW.out _ (below_step bel23 bel23.size hS6))) ?_)
  rintro e yz7 ⟨rfl, hB⟩
  have hS7 : Below v22.heap.size v22 yz7 := below_step hS6 hS6.size hB
  clear hB hS6
  refine ⟨_, rfl, hS7, ?_⟩
  simp only [Act.put, List.setIfInBounds_toArray, List.set_cons_zero, List.set_cons_succ]
  refine h_one (i := 45) (by kernel_rfl) (o_call rfl 93 rfl (by kernel_rfl) (run_op_call 13 _ _ rfl #[.agg (scs f).toArray, .agg (scs a).toArray] (by simp only [List.map_toArray, List.map_cons, List.map_nil]; rfl) Tryz.func13 (by kernel_rfl) (by kernel_rfl) _) (W6.out yz7 (HKW.out _ (below_step bel23 bel23.size hS7))) ?_)
  rintro e yz8 ⟨rfl, hB⟩
  have hS8 : Below v22.heap.size v22 yz8 := below_step hS7 hS7.size hB
  clear hB hS7
  refine ⟨_, rfl, hS8, ?_⟩
  simp only [Act.put, List.setIfInBounds_toArray, List.set_cons_zero, List.set_cons_succ]
  refine h_take 46 (.bool true) rfl 94 rfl (by kernel_rfl) (by kernel_rfl) (by kernel_rfl) (by kernel_rfl) (fun _ _ _ h => h) (fun w' _ => run_op_neqBB _ _ _ rfl p q rfl rfl true HPQ.out w') hS8 ?_
  simp only [Act.put, List.setIfInBounds_toArray, List.set_cons_zero, List.set_cons_succ]
  refine h_take 47 (.bool true) rfl 95 rfl (by kernel_rfl) (by kernel_rfl) (by kernel_rfl) (by kernel_rfl) (fun _ _ _ h => h) (fun w' _ => by kernel_rfl) hS8 ?_
  simp only [Act.put, List.setIfInBounds_toArray, List.set_cons_zero, List.set_cons_succ]
  refine h_take 48 (.bool true) rfl 96 rfl (by kernel_rfl) (by kernel_rfl) (by kernel_rfl) (by kernel_rfl) (fun _ _ _ h => h) (fun w' _ => by kernel_rfl) hS8 ?_
  simp only [Act.put, List.setIfInBounds_toArray, List.set_cons_zero, List.set_cons_succ]
  refine h_take 49 (.agg (scs b).toArray) rfl 97 rfl (by kernel_rfl) (by kernel_rfl) (by kernel_rfl) (by kernel_rfl) (fun _ _ _ h => h) (fun w' hC => run_op_load _ _ rfl T 0 rfl (scs b) ((Has.refl _).range (rT23.old hC)) (sz_sta KB.out)) hS8 ?_
  simp only [Act.put, List.setIfInBounds_toArray, List.set_cons_zero, List.set_cons_succ]
  refine h_take 50 (.agg (scs b).toArray) rfl 98 rfl (by kernel_rfl) (by kernel_rfl) (by kernel_rfl) (by kernel_rfl) (fun _ _ _ h => h) (fun w' hC => run_op_load _ _ rfl B 0 rfl (scs b) ((Has.refl _).range (rB23.old hC)) (sz_sta KB.out)) hS8 ?_
  simp only [Act.put, List.setIfInBounds_toArray, List.set_cons_zero, List.set_cons_succ]
  refine h_take 51 (.bool true) rfl 99 rfl (by kernel_rfl) (by kernel_rfl) (by kernel_rfl) (by kernel_rfl) (fun _ _ _ h => h) (fun w' _ => run_op_eqlS KB.out KB.out _ _ _ rfl rfl rfl true (by simp) w') hS8 ?_
  simp only [Act.put, List.setIfInBounds_toArray, List.set_cons_zero, List.set_cons_succ]
  refine h_take 52 (.bool true) rfl 100 rfl (by kernel_rfl) (by kernel_rfl) (by kernel_rfl) (by kernel_rfl) (fun _ _ _ h => h) (fun w' _ => by kernel_rfl) hS8 ?_
  simp only [Act.put, List.setIfInBounds_toArray, List.set_cons_zero, List.set_cons_succ]
  refine h_take 53 (.bool true) rfl 101 rfl (by kernel_rfl) (by kernel_rfl) (by kernel_rfl) (by kernel_rfl) (fun _ _ _ h => h) (fun w' _ => by kernel_rfl) hS8 ?_
  simp only [Act.put, List.setIfInBounds_toArray, List.set_cons_zero, List.set_cons_succ]
  refine h_take 54 (.int .i64 2) rfl 102 rfl (by kernel_rfl) (by kernel_rfl) (by kernel_rfl) (by kernel_rfl) (fun _ _ _ h => h) (fun w' _ => by kernel_rfl) hS8 ?_
  simp only [Act.put, List.setIfInBounds_toArray, List.set_cons_zero, List.set_cons_succ]
  refine h_take 55 (.bool true) rfl 103 rfl (by kernel_rfl) (by kernel_rfl) (by kernel_rfl) (by kernel_rfl) (fun _ _ _ h => h) (fun w' _ => cmp_eql _ _ .i64 (by kernel_rfl) _ _ rfl .i64 2 2 rfl rfl true (decide_eq_true rfl) w') hS8 ?_
  simp only [Act.put, List.setIfInBounds_toArray, List.set_cons_zero, List.set_cons_succ]
  refine h_take 56 (.bool true) rfl 104 rfl (by kernel_rfl) (by kernel_rfl) (by kernel_rfl) (by kernel_rfl) (fun _ _ _ h => h) (fun w' _ => by kernel_rfl) hS8 ?_
  simp only [Act.put, List.setIfInBounds_toArray, List.set_cons_zero, List.set_cons_succ]
  refine h_take 57 (.bool true) rfl 0 rfl (by kernel_rfl) (by kernel_rfl) (by kernel_rfl) (by kernel_rfl) (fun _ _ _ h => h) (fun w' _ => by kernel_rfl) hS8 ?_
  simp only [Act.put, List.setIfInBounds_toArray, List.set_cons_zero, List.set_cons_succ]
  refine wpAnyH_done (by kernel_rfl) ?_ _
  have belE := below_step bel23 bel23.size hS8
  go_wp2_with fail
  go_ret
  exact ⟨rfl, belE⟩
end Go.Proofs.YtffpifljeeikfaaGreatDoor.Cz
