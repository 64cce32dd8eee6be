/-
  The walk of layer 13's statement ChooseTells, out of the contracts: it returns true, and changes nothing that was there. Over this seat's translation.
-/
import Derived.Test.YtffpifljeeikfaaGreatDoorChoAwake
import Derived.Test.YtffpifljeeikfaaGreatDoorChoRight
import Derived.Test.YtffpifljeeikfaaGreatDoorChoRef
namespace Go.Proofs.YtffpifljeeikfaaGreatDoor.Cz
open Go.ChangeShapes Go.WideShapes Go.ChangeAt Go.RowKit Go.Proofs.YtffpifljeeikfaaGreatDoor.Mem Go.Proofs.YtffpifljeeikfaaGreatDoor.Bt Go.Proofs.YtffpifljeeikfaaGreatDoor.Sa Go.Proofs.YtffpifljeeikfaaGreatDoor.Sl
open Go.Proofs.YtffpifljeeikfaaGreatDoor.Od (Ky kcs kcmp kval keyN keyN_ok cmpN_neg cmpN_pos sz_key sz_rkey)
open Go.Proofs.YtffpifljeeikfaaGreatDoor.Lk (kS fS kR fR)
open Go.Proofs.YtffpifljeeikfaaGreatDoor.Wn (wcs WRt)
open Go.Proofs.YtffpifljeeikfaaGreatDoor.Ep (H32 zh zh_ok num32 Has h_len one_app one_num szH zH fitH allH)
open Go.Proofs.YtffpifljeeikfaaGreatDoor.Sha (ks)
set_option linter.unusedVariables false
set_option linter.unusedSimpArgs false

structure CtRel (w : World) (l : List Sta) (i mv : Value) (wr : World) : Prop where
  ex : ∃ (k : Nat) (p : Option Addr) (cap : Nat), k ≤ l.length ∧ i = .int .i64 (k : Int) ∧ mv = .slice p k cap ∧ Sl.Own kR wr w.heap.size p cap (l.take k)
  bel : Below w.heap.size w wr
set_option maxHeartbeats 40000000 in
set_option maxRecDepth 100000 in
theorem chooseTells_any (a b : Sta) (l : List Sta) (P : Option Addr) (pc : Nat) (w : World) (ka : a.Ok) (kb : b.Ok) (hs : At kS w P l) (hm : l.length ≤ maxLen) (hk : w.rangeAt 0 0 (u32s ks)) (hk2 : w.rangeAt 1 0 (u32s ks)) :
    Calls Tryz.prog 3 #[.agg (scs a).toArray, .agg (scs b).toArray, .slice P l.length pc] w fun e w' => e = .returned (.bool true) ∧ Below w.heap.size w w' := by
  have hk1 : 0 < w.heap.size := range_lt hk (by simp [u32s, ks])
  have HKW : Hid (∀ w', Below w.heap.size w w' → w'.rangeAt 0 0 (u32s ks)) := Lib.hid fun w' hb => range_block hk (hb.block _ hk1)
  have hk3 : 1 < w.heap.size := range_lt hk2 (by simp [u32s, ks])
  have HKR : Hid (∀ w', Below w.heap.size w w' → w'.rangeAt 1 0 (u32s ks)) := Lib.hid fun w' hb => range_block hk2 (hb.block _ hk3)
  have KA := Lib.hid ka; have KB := Lib.hid kb; have HS := Lib.hid hs
  have CA := Lib.hid (fun w0 h => awake_any w0 h)
  have O2 : Hid (kS.AllOk [a, b]) := Lib.hid (allOk_cons ka (allOk_cons kb allOk_nil))
  have CR1 : Hid (∀ w0 Q, At kS w0 (some ⟨Q, 0, none⟩) [a, b] → Calls Tryz.prog 5 #[.slice (some ⟨Q, 0, none⟩) 2 2] w0 fun e w' => e = .returned (.bool (decide (RtL [a, b]))) ∧ Below w0.heap.size w0 w') := Lib.hid fun w0 Q h => right13_any [a, b] (some ⟨Q, 0, none⟩) 2 w0 h (by simp [maxLen])
  have CR2 := Lib.hid (fun w0 h => right13_any l P pc w0 h hm)
  clear hk hk1 hk2 hk3 hm hs
  by_cases hr : RtL [a, b]
  · rw [decide_eq_true hr] at CR1
    by_cases hr2 : RtL l
    · rw [decide_eq_true hr2] at CR2
      have ra := hr.1 a (by simp); have rb := hr.1 b (by simp); have rl := hr2.1; have h20 := hr2.2
      have CD := Lib.hid (fun w0 => dens_any a b w0 ka kb ra rb)
      have CD2 := Lib.hid (fun w0 => rdens_any a b w0 ka kb ra rb)
      generalize denN a (asN a b) = x at CD CD2
      generalize denN b (asN a b) = y at CD CD2
      have N1 := Lib.hid (fun w0 => near_any a b w0 ka kb)
      have N2 := Lib.hid (fun w0 => rnear_any a b w0 ka kb)
      generalize decide (nearP a b) = p at N1 N2
      have W1 := Lib.hid (fun w0 h => wins_any a b w0 ka kb ra rb h)
      have W2 := Lib.hid (fun w0 h => rwins_any a b w0 ka kb ra rb h)
      generalize decide (winP a b) = q at W1 W2
      have CF := Lib.hid (fun w0 h hk => fold_any a l P pc w0 ka ra h rl (by omega) hk)
      have CF2 := Lib.hid (fun Q qc w0 h hk => rfold_any a l Q qc w0 ka ra h rl (by omega) hk)
      have KU := Lib.hid (fold_ok ka HS.out.ok)
      generalize foldF a l = uu at CF CF2 KU
      obtain ⟨u, un⟩ := uu
      simp only at CF CF2 KU
      have COa := Lib.hid (fun w0 => own13_any a w0 ka)
      have COb := Lib.hid (fun w0 => own13_any b w0 kb)
      have COu := Lib.hid (fun w0 => own13_any u w0 KU.out)
      have CO3 := Lib.hid (fun t w0 k => own13_any t w0 k)
      have HL : Hid (l.length ≤ 20) := Lib.hid h20
      clear hr hr2 ra rb rl ka kb
      go_enter Tryz.func3, Tryz.ntmps3
      go_wp2_with (first
        | ((with_reducible refine at_slot 3 ?_); (refine arm_box (o := ⟨some 3, _, _, _, _, _⟩) rfl _ _ rfl (scs a) rfl ?_); intro A v1 Ae hv1 nv1)
        | ((with_reducible refine at_slot 4 ?_); (refine arm_box (o := ⟨some 4, _, _, _, _, _⟩) rfl _ _ rfl (scs b) rfl ?_); intro B v2 Be hv2 nv2))
      have q0 := Ae.out
      have q1 := nv1.size
      have q2 := Be.out
      have q3 := nv2.size
      have lA : w.heap.size ≤ A := by omega
      have lB : w.heap.size ≤ B := by omega
      have nAB : A ≠ B := by omega
      have nBA : B ≠ A := by omega
      have rA3 : Row v2 A 35 (scs a) := (hv1.old nv2.below)
      have rB3 : Row v2 B 35 (scs b) := hv2
      have bel3 : Below w.heap.size w v2 := (below_step (below_step (Below.refl _ _) (by omega) nv1.below) (by omega) nv2.below)
      clear q0 q1 q2 q3 Ae hv1 nv1 Be hv2 nv2
      refine (CA.out _ (HKW.out _ bel3)).mono ?_
      rintro e y4 ⟨rfl, hB⟩
      have rA4 : Row y4 A 35 (scs a) := rA3.old hB
      have rB4 : Row y4 B 35 (scs b) := rB3.old hB
      have bel4 : Below w.heap.size w y4 := below_step bel3 bel3.size hB
      clear hB rA3 rB3 bel3
      go_wp2_with (first
        | ((with_reducible refine at_slot 20 ?_); (refine arm_load (o := ⟨some 20, _, _, _, _, _⟩) rfl _ _ rfl A 0 rfl (scs a) ((show Has (scs a) 0 (scs a) from Has.refl _).range (rA4)) (sz_sta KA.out) ?_))
        | ((with_reducible refine at_slot 21 ?_); (refine arm_load (o := ⟨some 21, _, _, _, _, _⟩) rfl _ _ rfl B 0 rfl (scs b) ((show Has (scs b) 0 (scs b) from Has.refl _).range (rB4)) (sz_sta KB.out) ?_))
        | ((with_reducible refine at_slot 22 ?_); (refine arm_lit (K := kS) (o := ⟨some 22, _, _, _, _, _⟩) rfl fS [a, b] O2.out (by simp) _ _ rfl rfl (by simp only [List.map_toArray, List.map_cons, List.map_nil]; rfl) ?_); intro Q v5 Qe hv5 nv5))
      have q0 := Qe.out
      have q1 := nv5.size
      have q2 := rA4.lt
      have q3 := rB4.lt
      have q4 := bel4.size
      have lQ : w.heap.size ≤ Q := by omega
      have nAQ : A ≠ Q := by omega
      have nQA : Q ≠ A := by omega
      have nBQ : B ≠ Q := by omega
      have nQB : Q ≠ B := by omega
      have rA6 : Row v5 A 35 (scs a) := (rA4.old nv5.below)
      have rB6 : Row v5 B 35 (scs b) := (rB4.old nv5.below)
      have rQ6 : Row v5 Q kS.t (kS.all [a, b]) := hv5
      have bel6 : Below w.heap.size w v5 := (below_step bel4 (by omega) nv5.below)
      clear q0 q1 q2 q3 q4 rA4 rB4 bel4 Qe hv5 nv5
      refine (CR1.out _ Q (At.row fS O2.out rQ6 (List.append_nil _).symm)).mono ?_
      rintro e y7 ⟨rfl, hB⟩
      have rA7 : Row y7 A 35 (scs a) := rA6.old hB
      have rB7 : Row y7 B 35 (scs b) := rB6.old hB
      have rQ7 : Row y7 Q kS.t (kS.all [a, b]) := rQ6.old hB
      have bel7 : Below w.heap.size w y7 := below_step bel6 bel6.size hB
      clear hB rA6 rB6 rQ6 bel6
      clear rQ7
      go_wp2_with fail
      refine (CR2.out _ (HS.out.below bel7)).mono ?_
      rintro e y8 ⟨rfl, hB⟩
      have rA8 : Row y8 A 35 (scs a) := rA7.old hB
      have rB8 : Row y8 B 35 (scs b) := rB7.old hB
      have bel8 : Below w.heap.size w y8 := below_step bel7 bel7.size hB
      clear hB rA7 rB7 bel7
      go_wp2_with (first
        | ((with_reducible refine at_slot 31 ?_); (refine arm_load (o := ⟨some 31, _, _, _, _, _⟩) rfl _ _ rfl A 0 rfl (scs a) ((show Has (scs a) 0 (scs a) from Has.refl _).range (rA8)) (sz_sta KA.out) ?_))
        | ((with_reducible refine at_slot 32 ?_); (refine arm_load (o := ⟨some 32, _, _, _, _, _⟩) rfl _ _ rfl B 0 rfl (scs b) ((show Has (scs b) 0 (scs b) from Has.refl _).range (rB8)) (sz_sta KB.out) ?_)))
      refine (CD.out _).mono ?_
      rintro e y9 ⟨rfl, hB⟩
      have rA9 : Row y9 A 35 (scs a) := rA8.old hB
      have rB9 : Row y9 B 35 (scs b) := rB8.old hB
      have bel9 : Below w.heap.size w y9 := below_step bel8 bel8.size hB
      clear hB rA8 rB8 bel8
      go_wp2_with fail
      refine wp_region_quiet (C := fun w' => Below y9.heap.size y9 w') (by kernel_rfl) (by kernel_rfl) ((Below.refl _ _).drew) ?_
      rw [List.toList_toArray]
      refine q_value 37 rfl (.agg (scs a).toArray) (by kernel_rfl) (fun w' hC => run_op_load _ _ rfl A 0 rfl (scs a) ((Has.refl _).range (rA9.old hC)) (sz_sta KA.out)) ?_
      simp only [Act.put, List.setIfInBounds_toArray, List.set_cons_zero, List.set_cons_succ]
      refine q_call 38 rfl (.agg (scs a).toArray) 8 #[.agg (scs a).toArray] (by kernel_rfl) (fun w' _ => run_op_call _ _ _ rfl _ (by simp only [List.map_toArray, List.map_cons, List.map_nil]; rfl) Tryz.func8 (by kernel_rfl) (by kernel_rfl) w') (fun w' hC => (COa.out w').mono fun e w'' h => ⟨h.1, below_step hC hC.size h.2⟩) ?_
      simp only [Act.put, List.setIfInBounds_toArray, List.set_cons_zero, List.set_cons_succ]
      refine q_value 39 rfl (.agg (scs b).toArray) (by kernel_rfl) (fun w' hC => run_op_load _ _ rfl B 0 rfl (scs b) ((Has.refl _).range (rB9.old hC)) (sz_sta KB.out)) ?_
      simp only [Act.put, List.setIfInBounds_toArray, List.set_cons_zero, List.set_cons_succ]
      refine q_call 40 rfl (.agg (scs b).toArray) 8 #[.agg (scs b).toArray] (by kernel_rfl) (fun w' _ => run_op_call _ _ _ rfl _ (by simp only [List.map_toArray, List.map_cons, List.map_nil]; rfl) Tryz.func8 (by kernel_rfl) (by kernel_rfl) w') (fun w' hC => (COb.out w').mono fun e w'' h => ⟨h.1, below_step hC hC.size h.2⟩) ?_
      simp only [Act.put, List.setIfInBounds_toArray, List.set_cons_zero, List.set_cons_succ]
      refine q_call 41 rfl (.tuple #[.int .u32 (x : Int), .int .u32 (y : Int)]) 7 #[.agg (scs a).toArray, .agg (scs b).toArray] (by kernel_rfl) (fun w' _ => run_op_call _ _ _ rfl _ (by simp only [List.map_toArray, List.map_cons, List.map_nil]; rfl) Tryz.func7 (by kernel_rfl) (by kernel_rfl) w') (fun w' hC => (CD2.out w').mono fun e w'' h => ⟨h.1, below_step hC hC.size h.2⟩) ?_
      simp only [Act.put, List.setIfInBounds_toArray, List.set_cons_zero, List.set_cons_succ]
      refine q_value 36 rfl (.tuple #[.int .u32 (x : Int), .int .u32 (y : Int)]) (by kernel_rfl) (fun w' _ => by kernel_rfl) ?_
      simp only [Act.put, List.setIfInBounds_toArray, List.set_cons_zero, List.set_cons_succ]
      refine q_value 42 rfl (.int .u32 (x : Int)) (by kernel_rfl) (fun w' _ => by kernel_rfl) ?_
      simp only [Act.put, List.setIfInBounds_toArray, List.set_cons_zero, List.set_cons_succ]
      refine q_value 43 rfl (.int .u32 (y : Int)) (by kernel_rfl) (fun w' _ => by kernel_rfl) ?_
      simp only [Act.put, List.setIfInBounds_toArray, List.set_cons_zero, List.set_cons_succ]
      refine q_value 9 rfl (.int .u32 (x : Int)) (by kernel_rfl) (fun w' _ => by kernel_rfl) ?_
      simp only [Act.put, List.setIfInBounds_toArray, List.set_cons_zero, List.set_cons_succ]
      refine q_value 10 rfl (.int .u32 (y : Int)) (by kernel_rfl) (fun w' _ => by kernel_rfl) ?_
      simp only [Act.put, List.setIfInBounds_toArray, List.set_cons_zero, List.set_cons_succ]
      refine wpQuiet_nil ?_
      intro w2 hC
      have belq := below_step bel9 bel9.size hC; have rAq := rA9.old hC; have rBq := rB9.old hC
      clear rA9 rB9 bel9 hC CD CD2
      go_wp2_with (first
        | ((with_reducible refine at_slot 44 ?_); (refine arm_lit (K := kR) (o := ⟨some 44, _, _, _, _, _⟩) rfl fR [] allOk_nil (by simp) _ _ rfl rfl (by simp only [List.map_toArray, List.map_nil]; rfl) ?_); intro M v1 Me hM nM))
      have hM0 : Sl.Own kR v1 w2.heap.size (some ⟨M, 0, none⟩) 0 [] := Sl.Own.row fR allOk_nil (by have := Me.out; omega) (by simp) hM
      have h0 : CtRel w2 l (.int .i64 0) (.slice (some ⟨M, 0, none⟩) 0 0) v1 := ⟨⟨0, _, 0, by omega, rfl, rfl, hM0⟩, nM.below⟩
      have RA := Lib.hid rAq; have RB := Lib.hid rBq; have BEL := Lib.hid belq
      clear hM0 Me hM nM rAq rBq belq
      go_loopw [47, 11] (fun i mv wr => CtRel w2 l i mv wr) (fun i _ _ => l.length - (intOf i).toNat)
      case atStart => exact h0
      case round =>
        clear h0
        obtain ⟨⟨k, mp, mc, hk, rfl, rfl, hown⟩, bel⟩ := hrel
        by_cases hlt : k < l.length
        · obtain ⟨t, g, o, ht, kt, hP, hgl, hrs⟩ := HS.out.get hlt
          subst hP
          have RT := Lib.hid (range_block hrs ((below_step BEL.out BEL.out.size bel).block g hgl)); have KT := Lib.hid kt; have HT := Lib.hid ht
          have ik : (k : Int) < (l.length : Int) := by omega
          have hk100 : k < 100 := by omega
          clear hrs kt ht
          go_wp2_with (first
            | ((with_reducible refine at_slot 49 ?_); (refine arm_want (.pointer (some ⟨g, o + k * 363, none⟩)) 49 rfl (by kernel_rfl) (run_op_index fS _ _ rfl g o _ _ rfl .i64 _ rfl k rfl hlt _) ?_))
            | ((with_reducible refine at_slot 50 ?_); (refine arm_load (o := ⟨some 50, _, _, _, _, _⟩) rfl _ _ rfl g (o + k * 363) rfl (scs t) (RT.out) (sz_sta KT.out) ?_))
            | ((with_reducible refine at_slot 13 ?_); (refine arm_alloc (o := ⟨some 13, _, _, _, _, _⟩) rfl _ rfl (scs zs) z_sta ?_); intro X v101 Xe hv101 nv101)
            | ((with_reducible refine arm_store (o := ⟨none, _, _, _, _, _⟩) rfl _ _ _ rfl X 0 rfl (scs t) rfl _ _ (hv101) (fitS KT.out) (scs_one _) (sz_sta KT.out) ?_); intro v102 hv102 ov102 sv102)
            | ((with_reducible refine at_slot 52 ?_); (refine arm_load (o := ⟨some 52, _, _, _, _, _⟩) rfl _ _ rfl X 0 rfl (scs t) ((show Has (scs t) 0 (scs t) from Has.refl _).range ((hv102.congr (allS KT.out)))) (sz_sta KT.out) ?_)))
          have q0 := Xe.out
          have q1 := nv101.size
          have q2 := sv102.out
          have q3 := bel.size
          have lX : w2.heap.size ≤ X := by omega
          have pX : bk mp ≠ some X := fun e => by have := (hown.ge e).2; omega
          have rX103 : Row v102 X 35 (scs t) := (hv102.congr (allS KT.out))
          have hown103 := ((hown.below nv101.below).only ov102 pX)
          have bel103 : Below w2.heap.size w2 v102 := (below_only (below_step bel (by omega) nv101.below) ov102 lX (by omega))
          clear q0 q1 q2 q3 hown bel Xe hv101 nv101 hv102 ov102 sv102
          refine (CO3.out t _ KT.out).mono ?_
          rintro e y104 ⟨rfl, hB⟩
          have rX104 : Row y104 X 35 (scs t) := rX103.old hB
          have hown104 := hown103.below hB
          have bel104 : Below w2.heap.size w2 y104 := below_step bel103 bel103.size hB
          clear hB rX103 hown103 bel103
          clear rX104
          go_wp2_with (first
            | ((with_reducible refine at_slot 54 ?_); (refine arm_lit (K := kR) (o := ⟨some 54, _, _, _, _, _⟩) rfl fR [t] (allOk_cons KT.out allOk_nil) (by simp) _ _ rfl rfl (by simp only [List.map_toArray, List.map_cons, List.map_nil]; rfl) ?_); intro Y vY Ye hY nY)
            | ((with_reducible refine at_slot 55 ?_); (refine arm_append (K := kR) (o := ⟨some 55, _, _, _, _, _⟩) rfl fR _ _ rfl (w2.heap.size) (mp) _ mc (l.take k) (by rw [List.length_take]; omega) rfl (hown104.below nY.below) (some ⟨Y, 0, none⟩) 1 1 ([t]) rfl rfl (At.row fR (allOk_cons KT.out allOk_nil) hY (List.append_nil _).symm) (by simp) (by simp only [List.length_take, List.length_cons, List.length_nil]; omega) (by have := bel104.size; have := nY.size; omega) ?_); intro mp2 mc2 vZ hO hBZ hkp hat; rw [show (l.take k ++ [t]).length = k + 1 by rw [List.length_append, List.length_take, List.length_cons, List.length_nil]; omega]))
          rw [take_snoc HT.out] at hO
          have belZ : Below w2.heap.size w2 vZ := (below_step bel104 bel104.size nY.below).trans hBZ
          clear hown104 bel104 Ye hY nY hBZ hkp hat pX
          go_roundw
          case rel => exact ⟨⟨k + 1, mp2, mc2, by omega, by go_num, rfl, hO⟩, belZ⟩
          case measure => simp [intOf]; omega
        · obtain rfl : k = l.length := by omega
          rw [List.take_length] at hown
          have rA0 := RA.out.old bel; have rB0 := RB.out.old bel
          have BR : Hid (Below w.heap.size w wr) := Lib.hid (below_step BEL.out BEL.out.size bel)
          clear RA RB BEL bel CO3
          have bel0 := Below.refl wr.heap.size wr
          go_wp2_with (first
            | ((with_reducible refine at_slot 58 ?_); (refine arm_load (o := ⟨some 58, _, _, _, _, _⟩) rfl _ _ rfl A 0 rfl (scs a) ((show Has (scs a) 0 (scs a) from Has.refl _).range (rA0)) (sz_sta KA.out) ?_)))
          refine (CF.out _ (HS.out.below (below_step BR.out BR.out.size bel0)) (HKW.out _ (below_step BR.out BR.out.size bel0))).mono ?_
          rintro e y101 ⟨rfl, hB⟩
          have rA101 : Row y101 A 35 (scs a) := rA0.old hB
          have rB101 : Row y101 B 35 (scs b) := rB0.old hB
          have hown101 := hown.below hB
          have bel101 : Below wr.heap.size wr y101 := below_step bel0 bel0.size hB
          clear hB rA0 rB0 hown bel0
          go_wp2_with (first
            | ((with_reducible refine at_slot 14 ?_); (refine arm_alloc (o := ⟨some 14, _, _, _, _, _⟩) rfl _ rfl (scs zs) z_sta ?_); intro U v102 Ue hv102 nv102)
            | ((with_reducible refine arm_store (o := ⟨none, _, _, _, _, _⟩) rfl _ _ _ rfl U 0 rfl (scs u) rfl _ _ (hv102) (fitS KU.out) (scs_one _) (sz_sta KU.out) ?_); intro v103 hv103 ov103 sv103)
            | ((with_reducible refine at_slot 64 ?_); (refine arm_load (o := ⟨some 64, _, _, _, _, _⟩) rfl _ _ rfl A 0 rfl (scs a) ((show Has (scs a) 0 (scs a) from Has.refl _).range (((rA101.old nv102.below).only ov103 (by have := rA101.lt; have := Ue.out; have := nv102.size; have := sv103.out; omega)))) (sz_sta KA.out) ?_)))
          have q0 := Ue.out
          have q1 := nv102.size
          have q2 := sv103.out
          have q3 := rA101.lt
          have q4 := rB101.lt
          have q5 := bel101.size
          have lU : wr.heap.size ≤ U := by omega
          have nAU : A ≠ U := by omega
          have nUA : U ≠ A := by omega
          have nBU : B ≠ U := by omega
          have nUB : U ≠ B := by omega
          have pU : bk mp ≠ some U := fun e => by have := (hown101.ge e).2; omega
          have rA104 : Row v103 A 35 (scs a) := ((rA101.old nv102.below).only ov103 nAU)
          have rB104 : Row v103 B 35 (scs b) := ((rB101.old nv102.below).only ov103 nBU)
          have rU104 : Row v103 U 35 (scs u) := (hv103.congr (allS KU.out))
          have hown104 := ((hown101.below nv102.below).only ov103 pU)
          have bel104 : Below wr.heap.size wr v103 := (below_only (below_step bel101 (by omega) nv102.below) ov103 lU (by omega))
          clear q0 q1 q2 q3 q4 q5 rA101 rB101 hown101 bel101 Ue hv102 nv102 hv103 ov103 sv103
          refine (COa.out _).mono ?_
          rintro e y105 ⟨rfl, hB⟩
          have rA105 : Row y105 A 35 (scs a) := rA104.old hB
          have rB105 : Row y105 B 35 (scs b) := rB104.old hB
          have rU105 : Row y105 U 35 (scs u) := rU104.old hB
          have hown105 := hown104.below hB
          have bel105 : Below wr.heap.size wr y105 := below_step bel104 bel104.size hB
          clear hB rA104 rB104 rU104 hown104 bel104
          go_wp2_with fail
          refine (CF2.out mp mc _ (hown105.at fR) (HKR.out _ (below_step BR.out BR.out.size bel105))).mono ?_
          rintro e y106 ⟨rfl, hB⟩
          have rA106 : Row y106 A 35 (scs a) := rA105.old hB
          have rB106 : Row y106 B 35 (scs b) := rB105.old hB
          have rU106 : Row y106 U 35 (scs u) := rU105.old hB
          have hown106 := hown105.below hB
          have bel106 : Below wr.heap.size wr y106 := below_step bel105 bel105.size hB
          clear hB rA105 rB105 rU105 hown105 bel105
          clear hown106
          go_wp2_with (first
            | ((with_reducible refine at_slot 16 ?_); (refine arm_alloc (o := ⟨some 16, _, _, _, _, _⟩) rfl _ rfl (scs zs) z_rsta ?_); intro V v107 Ve hv107 nv107)
            | ((with_reducible refine arm_store (o := ⟨none, _, _, _, _, _⟩) rfl _ _ _ rfl V 0 rfl (scs u) rfl _ _ (hv107) (fitS KU.out) (scs_one _) (sz_rsta KU.out) ?_); intro v108 hv108 ov108 sv108))
          have q0 := Ve.out
          have q1 := nv107.size
          have q2 := sv108.out
          have q3 := rA106.lt
          have q4 := rB106.lt
          have q5 := rU106.lt
          have q6 := bel106.size
          have lV : wr.heap.size ≤ V := by omega
          have nAV : A ≠ V := by omega
          have nVA : V ≠ A := by omega
          have nBV : B ≠ V := by omega
          have nVB : V ≠ B := by omega
          have nUV : U ≠ V := by omega
          have nVU : V ≠ U := by omega
          have rA109 : Row v108 A 35 (scs a) := ((rA106.old nv107.below).only ov108 nAV)
          have rB109 : Row v108 B 35 (scs b) := ((rB106.old nv107.below).only ov108 nBV)
          have rU109 : Row v108 U 35 (scs u) := ((rU106.old nv107.below).only ov108 nUV)
          have rV109 : Row v108 V 49 (scs u) := (hv108.congr (allS KU.out))
          have bel109 : Below wr.heap.size wr v108 := (below_only (below_step bel106 (by omega) nv107.below) ov108 lV (by omega))
          clear q0 q1 q2 q3 q4 q5 q6 rA106 rB106 rU106 bel106 Ve hv107 nv107 hv108 ov108 sv108
          refine wp_region_held (S := fun w' => Below v108.heap.size v108 w') (by kernel_rfl) ?_
          change wpAnyH _ _ _ _ _ _ _ _ v108.drew
          have hS : Below v108.heap.size v108 v108.drew := (Below.refl _ _).drew
          generalize v108.drew = yz at hS ⊢
          refine h_take 0 (.agg (scs a).toArray) rfl 70 rfl (by kernel_rfl) (by kernel_rfl) (by kernel_rfl) (by kernel_rfl) (fun _ _ _ h => h) (fun w' hC => run_op_load _ _ rfl A 0 rfl (scs a) ((Has.refl _).range (rA109.old hC)) (sz_sta KA.out)) hS ?_
          simp only [Act.put, List.setIfInBounds_toArray, List.set_cons_zero, List.set_cons_succ]
          refine h_take 1 (.agg (scs b).toArray) rfl 71 rfl (by kernel_rfl) (by kernel_rfl) (by kernel_rfl) (by kernel_rfl) (fun _ _ _ h => h) (fun w' hC => run_op_load _ _ rfl B 0 rfl (scs b) ((Has.refl _).range (rB109.old hC)) (sz_sta KB.out)) hS ?_
          simp only [Act.put, List.setIfInBounds_toArray, List.set_cons_zero, List.set_cons_succ]
          refine h_take 3 (.agg (scs a).toArray) rfl 73 rfl (by kernel_rfl) (by kernel_rfl) (by kernel_rfl) (by kernel_rfl) (fun _ _ _ h => h) (fun w' hC => run_op_load _ _ rfl A 0 rfl (scs a) ((Has.refl _).range (rA109.old hC)) (sz_sta KA.out)) hS ?_
          simp only [Act.put, List.setIfInBounds_toArray, List.set_cons_zero, List.set_cons_succ]
          refine h_take 5 (.agg (scs b).toArray) rfl 75 rfl (by kernel_rfl) (by kernel_rfl) (by kernel_rfl) (by kernel_rfl) (fun _ _ _ h => h) (fun w' hC => run_op_load _ _ rfl B 0 rfl (scs b) ((Has.refl _).range (rB109.old hC)) (sz_sta KB.out)) hS ?_
          simp only [Act.put, List.setIfInBounds_toArray, List.set_cons_zero, List.set_cons_succ]
          refine h_one (i := 2) (by kernel_rfl) (o_call rfl 72 rfl (by kernel_rfl) (run_op_call 11 _ _ rfl #[.agg (scs a).toArray, .agg (scs b).toArray] (by simp only [List.map_toArray, List.map_cons, List.map_nil]; rfl) Tryz.func11 (by kernel_rfl) (by kernel_rfl) _) (N1.out yz) ?_)
          rintro e yz1 ⟨rfl, hB⟩
          have hS1 : Below v108.heap.size v108 yz1 := below_step hS hS.size hB
          clear hB hS
          refine ⟨_, rfl, hS1, ?_⟩
          simp only [Act.put, List.setIfInBounds_toArray, List.set_cons_zero, List.set_cons_succ]
          refine h_one (i := 4) (by kernel_rfl) (o_call rfl 74 rfl (by kernel_rfl) (run_op_call 8 _ _ rfl #[.agg (scs a).toArray] (by simp only [List.map_toArray, List.map_cons, List.map_nil]; rfl) Tryz.func8 (by kernel_rfl) (by kernel_rfl) _) (COa.out yz1) ?_)
          rintro e yz2 ⟨rfl, hB⟩
          have hS2 : Below v108.heap.size v108 yz2 := below_step hS1 hS1.size hB
          clear hB hS1
          refine ⟨_, rfl, hS2, ?_⟩
          simp only [Act.put, List.setIfInBounds_toArray, List.set_cons_zero, List.set_cons_succ]
          refine h_one (i := 6) (by kernel_rfl) (o_call rfl 76 rfl (by kernel_rfl) (run_op_call 8 _ _ rfl #[.agg (scs b).toArray] (by simp only [List.map_toArray, List.map_cons, List.map_nil]; rfl) Tryz.func8 (by kernel_rfl) (by kernel_rfl) _) (COb.out yz2) ?_)
          rintro e yz3 ⟨rfl, hB⟩
          have hS3 : Below v108.heap.size v108 yz3 := below_step hS2 hS2.size hB
          clear hB hS2
          refine ⟨_, rfl, hS3, ?_⟩
          simp only [Act.put, List.setIfInBounds_toArray, List.set_cons_zero, List.set_cons_succ]
          refine h_one (i := 7) (by kernel_rfl) (o_call rfl 77 rfl (by kernel_rfl) (run_op_call 12 _ _ rfl #[.agg (scs a).toArray, .agg (scs b).toArray] (by simp only [List.map_toArray, List.map_cons, List.map_nil]; rfl) Tryz.func12 (by kernel_rfl) (by kernel_rfl) _) (N2.out yz3) ?_)
          rintro e yz4 ⟨rfl, hB⟩
          have hS4 : Below v108.heap.size v108 yz4 := below_step hS3 hS3.size hB
          clear hB hS3
          refine ⟨_, rfl, hS4, ?_⟩
          simp only [Act.put, List.setIfInBounds_toArray, List.set_cons_zero, List.set_cons_succ]
          refine h_take 8 (.bool true) rfl 78 rfl (by kernel_rfl) (by kernel_rfl) (by kernel_rfl) (by kernel_rfl) (fun _ _ _ h => h) (fun w' _ => run_op_eqlBB _ _ _ rfl p p rfl rfl true (by cases p <;> rfl) w') hS4 ?_
          simp only [Act.put, List.setIfInBounds_toArray, List.set_cons_zero, List.set_cons_succ]
          refine h_take 9 (.bool true) rfl 79 rfl (by kernel_rfl) (by kernel_rfl) (by kernel_rfl) (by kernel_rfl) (fun _ _ _ h => h) (fun w' _ => by kernel_rfl) hS4 ?_
          simp only [Act.put, List.setIfInBounds_toArray, List.set_cons_zero, List.set_cons_succ]
          refine h_take 10 (.int .u32 (x : Int)) rfl 80 rfl (by kernel_rfl) (by kernel_rfl) (by kernel_rfl) (by kernel_rfl) (fun _ _ _ h => h) (fun w' _ => by kernel_rfl) hS4 ?_
          simp only [Act.put, List.setIfInBounds_toArray, List.set_cons_zero, List.set_cons_succ]
          refine h_take 11 (.int .u32 (x : Int)) rfl 81 rfl (by kernel_rfl) (by kernel_rfl) (by kernel_rfl) (by kernel_rfl) (fun _ _ _ h => h) (fun w' _ => by kernel_rfl) hS4 ?_
          simp only [Act.put, List.setIfInBounds_toArray, List.set_cons_zero, List.set_cons_succ]
          refine h_take 12 (.bool true) rfl 82 rfl (by kernel_rfl) (by kernel_rfl) (by kernel_rfl) (by kernel_rfl) (fun _ _ _ h => h) (fun w' _ => cmp_eql _ _ .u32 (by kernel_rfl) _ _ rfl .u32 (x : Int) (x : Int) rfl rfl true (decide_eq_true rfl) w') hS4 ?_
          simp only [Act.put, List.setIfInBounds_toArray, List.set_cons_zero, List.set_cons_succ]
          refine h_take 13 (.bool true) rfl 83 rfl (by kernel_rfl) (by kernel_rfl) (by kernel_rfl) (by kernel_rfl) (fun _ _ _ h => h) (fun w' _ => by kernel_rfl) hS4 ?_
          simp only [Act.put, List.setIfInBounds_toArray, List.set_cons_zero, List.set_cons_succ]
          refine h_take 14 (.bool true) rfl 84 rfl (by kernel_rfl) (by kernel_rfl) (by kernel_rfl) (by kernel_rfl) (fun _ _ _ h => h) (fun w' _ => by kernel_rfl) hS4 ?_
          simp only [Act.put, List.setIfInBounds_toArray, List.set_cons_zero, List.set_cons_succ]
          refine h_take 15 (.int .u32 (y : Int)) rfl 85 rfl (by kernel_rfl) (by kernel_rfl) (by kernel_rfl) (by kernel_rfl) (fun _ _ _ h => h) (fun w' _ => by kernel_rfl) hS4 ?_
          simp only [Act.put, List.setIfInBounds_toArray, List.set_cons_zero, List.set_cons_succ]
          refine h_take 16 (.int .u32 (y : Int)) rfl 86 rfl (by kernel_rfl) (by kernel_rfl) (by kernel_rfl) (by kernel_rfl) (fun _ _ _ h => h) (fun w' _ => by kernel_rfl) hS4 ?_
          simp only [Act.put, List.setIfInBounds_toArray, List.set_cons_zero, List.set_cons_succ]
          refine h_take 17 (.bool true) rfl 87 rfl (by kernel_rfl) (by kernel_rfl) (by kernel_rfl) (by kernel_rfl) (fun _ _ _ h => h) (fun w' _ => cmp_eql _ _ .u32 (by kernel_rfl) _ _ rfl .u32 (y : Int) (y : Int) rfl rfl true (decide_eq_true rfl) w') hS4 ?_
          simp only [Act.put, List.setIfInBounds_toArray, List.set_cons_zero, List.set_cons_succ]
          refine h_take 18 (.bool true) rfl 88 rfl (by kernel_rfl) (by kernel_rfl) (by kernel_rfl) (by kernel_rfl) (fun _ _ _ h => h) (fun w' _ => by kernel_rfl) hS4 ?_
          simp only [Act.put, List.setIfInBounds_toArray, List.set_cons_zero, List.set_cons_succ]
          refine h_take 19 (.bool true) rfl 89 rfl (by kernel_rfl) (by kernel_rfl) (by kernel_rfl) (by kernel_rfl) (fun _ _ _ h => h) (fun w' _ => by kernel_rfl) hS4 ?_
          simp only [Act.put, List.setIfInBounds_toArray, List.set_cons_zero, List.set_cons_succ]
          refine h_take 20 (.agg (scs a).toArray) rfl 90 rfl (by kernel_rfl) (by kernel_rfl) (by kernel_rfl) (by kernel_rfl) (fun _ _ _ h => h) (fun w' hC => run_op_load _ _ rfl A 0 rfl (scs a) ((Has.refl _).range (rA109.old hC)) (sz_sta KA.out)) hS4 ?_
          simp only [Act.put, List.setIfInBounds_toArray, List.set_cons_zero, List.set_cons_succ]
          refine h_take 21 (.agg (scs b).toArray) rfl 91 rfl (by kernel_rfl) (by kernel_rfl) (by kernel_rfl) (by kernel_rfl) (fun _ _ _ h => h) (fun w' hC => run_op_load _ _ rfl B 0 rfl (scs b) ((Has.refl _).range (rB109.old hC)) (sz_sta KB.out)) hS4 ?_
          simp only [Act.put, List.setIfInBounds_toArray, List.set_cons_zero, List.set_cons_succ]
          refine h_take 23 (.agg (scs a).toArray) rfl 93 rfl (by kernel_rfl) (by kernel_rfl) (by kernel_rfl) (by kernel_rfl) (fun _ _ _ h => h) (fun w' hC => run_op_load _ _ rfl A 0 rfl (scs a) ((Has.refl _).range (rA109.old hC)) (sz_sta KA.out)) hS4 ?_
          simp only [Act.put, List.setIfInBounds_toArray, List.set_cons_zero, List.set_cons_succ]
          refine h_take 25 (.agg (scs b).toArray) rfl 95 rfl (by kernel_rfl) (by kernel_rfl) (by kernel_rfl) (by kernel_rfl) (fun _ _ _ h => h) (fun w' hC => run_op_load _ _ rfl B 0 rfl (scs b) ((Has.refl _).range (rB109.old hC)) (sz_sta KB.out)) hS4 ?_
          simp only [Act.put, List.setIfInBounds_toArray, List.set_cons_zero, List.set_cons_succ]
          refine h_one (i := 22) (by kernel_rfl) (o_call rfl 92 rfl (by kernel_rfl) (run_op_call 13 _ _ rfl #[.agg (scs a).toArray, .agg (scs b).toArray] (by simp only [List.map_toArray, List.map_cons, List.map_nil]; rfl) Tryz.func13 (by kernel_rfl) (by kernel_rfl) _) (W1.out yz4 (HKW.out _ (below_step BR.out BR.out.size (below_step bel109 bel109.size hS4)))) ?_)
          rintro e yz5 ⟨rfl, hB⟩
          have hS5 : Below v108.heap.size v108 yz5 := below_step hS4 hS4.size hB
          clear hB hS4
          refine ⟨_, rfl, hS5, ?_⟩
          simp only [Act.put, List.setIfInBounds_toArray, List.set_cons_zero, List.set_cons_succ]
          refine h_one (i := 24) (by kernel_rfl) (o_call rfl 94 rfl (by kernel_rfl) (run_op_call 8 _ _ rfl #[.agg (scs a).toArray] (by simp only [List.map_toArray, List.map_cons, List.map_nil]; rfl) Tryz.func8 (by kernel_rfl) (by kernel_rfl) _) (COa.out yz5) ?_)
          rintro e yz6 ⟨rfl, hB⟩
          have hS6 : Below v108.heap.size v108 yz6 := below_step hS5 hS5.size hB
          clear hB hS5
          refine ⟨_, rfl, hS6, ?_⟩
          simp only [Act.put, List.setIfInBounds_toArray, List.set_cons_zero, List.set_cons_succ]
          refine h_one (i := 26) (by kernel_rfl) (o_call rfl 96 rfl (by kernel_rfl) (run_op_call 8 _ _ rfl #[.agg (scs b).toArray] (by simp only [List.map_toArray, List.map_cons, List.map_nil]; rfl) Tryz.func8 (by kernel_rfl) (by kernel_rfl) _) (COb.out yz6) ?_)
          rintro e yz7 ⟨rfl, hB⟩
          have hS7 : Below v108.heap.size v108 yz7 := below_step hS6 hS6.size hB
          clear hB hS6
          refine ⟨_, rfl, hS7, ?_⟩
          simp only [Act.put, List.setIfInBounds_toArray, List.set_cons_zero, List.set_cons_succ]
          refine h_one (i := 27) (by kernel_rfl) (o_call rfl 97 rfl (by kernel_rfl) (run_op_call 14 _ _ rfl #[.agg (scs a).toArray, .agg (scs b).toArray] (by simp only [List.map_toArray, List.map_cons, List.map_nil]; rfl) Tryz.func14 (by kernel_rfl) (by kernel_rfl) _) (W2.out yz7 (HKR.out _ (below_step BR.out BR.out.size (below_step bel109 bel109.size hS7)))) ?_)
          rintro e yz8 ⟨rfl, hB⟩
          have hS8 : Below v108.heap.size v108 yz8 := below_step hS7 hS7.size hB
          clear hB hS7
          refine ⟨_, rfl, hS8, ?_⟩
          simp only [Act.put, List.setIfInBounds_toArray, List.set_cons_zero, List.set_cons_succ]
          refine h_take 28 (.bool true) rfl 98 rfl (by kernel_rfl) (by kernel_rfl) (by kernel_rfl) (by kernel_rfl) (fun _ _ _ h => h) (fun w' _ => run_op_eqlBB _ _ _ rfl q q rfl rfl true (by cases q <;> rfl) w') hS8 ?_
          simp only [Act.put, List.setIfInBounds_toArray, List.set_cons_zero, List.set_cons_succ]
          refine h_take 29 (.bool true) rfl 99 rfl (by kernel_rfl) (by kernel_rfl) (by kernel_rfl) (by kernel_rfl) (fun _ _ _ h => h) (fun w' _ => by kernel_rfl) hS8 ?_
          simp only [Act.put, List.setIfInBounds_toArray, List.set_cons_zero, List.set_cons_succ]
          refine h_take 30 (.bool true) rfl 100 rfl (by kernel_rfl) (by kernel_rfl) (by kernel_rfl) (by kernel_rfl) (fun _ _ _ h => h) (fun w' _ => by kernel_rfl) hS8 ?_
          simp only [Act.put, List.setIfInBounds_toArray, List.set_cons_zero, List.set_cons_succ]
          refine h_take 31 (.agg (scs u).toArray) rfl 101 rfl (by kernel_rfl) (by kernel_rfl) (by kernel_rfl) (by kernel_rfl) (fun _ _ _ h => h) (fun w' hC => run_op_load _ _ rfl U 0 rfl (scs u) ((Has.refl _).range (rU109.old hC)) (sz_sta KU.out)) hS8 ?_
          simp only [Act.put, List.setIfInBounds_toArray, List.set_cons_zero, List.set_cons_succ]
          refine h_take 33 (.agg (scs u).toArray) rfl 103 rfl (by kernel_rfl) (by kernel_rfl) (by kernel_rfl) (by kernel_rfl) (fun _ _ _ h => h) (fun w' hC => run_op_load _ _ rfl V 0 rfl (scs u) ((Has.refl _).range (rV109.old hC)) (sz_rsta KU.out)) hS8 ?_
          simp only [Act.put, List.setIfInBounds_toArray, List.set_cons_zero, List.set_cons_succ]
          refine h_one (i := 32) (by kernel_rfl) (o_call rfl 102 rfl (by kernel_rfl) (run_op_call 8 _ _ rfl #[.agg (scs u).toArray] (by simp only [List.map_toArray, List.map_cons, List.map_nil]; rfl) Tryz.func8 (by kernel_rfl) (by kernel_rfl) _) (COu.out yz8) ?_)
          rintro e yz9 ⟨rfl, hB⟩
          have hS9 : Below v108.heap.size v108 yz9 := below_step hS8 hS8.size hB
          clear hB hS8
          refine ⟨_, rfl, hS9, ?_⟩
          simp only [Act.put, List.setIfInBounds_toArray, List.set_cons_zero, List.set_cons_succ]
          refine h_take 34 (.bool true) rfl 104 rfl (by kernel_rfl) (by kernel_rfl) (by kernel_rfl) (by kernel_rfl) (fun _ _ _ h => h) (fun w' _ => run_op_eqlRS KU.out KU.out _ _ _ rfl rfl rfl true (by simp) w') hS9 ?_
          simp only [Act.put, List.setIfInBounds_toArray, List.set_cons_zero, List.set_cons_succ]
          refine h_take 35 (.bool true) rfl 105 rfl (by kernel_rfl) (by kernel_rfl) (by kernel_rfl) (by kernel_rfl) (fun _ _ _ h => h) (fun w' _ => by kernel_rfl) hS9 ?_
          simp only [Act.put, List.setIfInBounds_toArray, List.set_cons_zero, List.set_cons_succ]
          refine h_take 36 (.bool true) rfl 106 rfl (by kernel_rfl) (by kernel_rfl) (by kernel_rfl) (by kernel_rfl) (fun _ _ _ h => h) (fun w' _ => by kernel_rfl) hS9 ?_
          simp only [Act.put, List.setIfInBounds_toArray, List.set_cons_zero, List.set_cons_succ]
          refine h_take 37 (.int .i64 (un : Int)) rfl 107 rfl (by kernel_rfl) (by kernel_rfl) (by kernel_rfl) (by kernel_rfl) (fun _ _ _ h => h) (fun w' _ => by kernel_rfl) hS9 ?_
          simp only [Act.put, List.setIfInBounds_toArray, List.set_cons_zero, List.set_cons_succ]
          refine h_take 38 (.int .i64 (un : Int)) rfl 108 rfl (by kernel_rfl) (by kernel_rfl) (by kernel_rfl) (by kernel_rfl) (fun _ _ _ h => h) (fun w' _ => by kernel_rfl) hS9 ?_
          simp only [Act.put, List.setIfInBounds_toArray, List.set_cons_zero, List.set_cons_succ]
          refine h_take 39 (.bool true) rfl 109 rfl (by kernel_rfl) (by kernel_rfl) (by kernel_rfl) (by kernel_rfl) (fun _ _ _ h => h) (fun w' _ => cmp_eql _ _ .i64 (by kernel_rfl) _ _ rfl .i64 (un : Int) (un : Int) rfl rfl true (decide_eq_true rfl) w') hS9 ?_
          simp only [Act.put, List.setIfInBounds_toArray, List.set_cons_zero, List.set_cons_succ]
          refine h_take 40 (.bool true) rfl 110 rfl (by kernel_rfl) (by kernel_rfl) (by kernel_rfl) (by kernel_rfl) (fun _ _ _ h => h) (fun w' _ => by kernel_rfl) hS9 ?_
          simp only [Act.put, List.setIfInBounds_toArray, List.set_cons_zero, List.set_cons_succ]
          refine h_take 41 (.bool true) rfl 6 rfl (by kernel_rfl) (by kernel_rfl) (by kernel_rfl) (by kernel_rfl) (fun _ _ _ h => h) (fun w' _ => by kernel_rfl) hS9 ?_
          simp only [Act.put, List.setIfInBounds_toArray, List.set_cons_zero, List.set_cons_succ]
          refine wpAnyH_done (by kernel_rfl) ?_ _
          have belE := below_step BR.out BR.out.size (below_step bel109 bel109.size hS9)
          go_wp2_with fail
          go_ret
          exact ⟨rfl, belE⟩
    · rw [decide_eq_false hr2] at CR2
      clear hr hr2 ka kb
      go_enter Tryz.func3, Tryz.ntmps3
      go_wp2_with (first
        | ((with_reducible refine at_slot 3 ?_); (refine arm_box (o := ⟨some 3, _, _, _, _, _⟩) rfl _ _ rfl (scs a) rfl ?_); intro A v1 Ae hv1 nv1)
        | ((with_reducible refine at_slot 4 ?_); (refine arm_box (o := ⟨some 4, _, _, _, _, _⟩) rfl _ _ rfl (scs b) rfl ?_); intro B v2 Be hv2 nv2))
      have q0 := Ae.out
      have q1 := nv1.size
      have q2 := Be.out
      have q3 := nv2.size
      have lA : w.heap.size ≤ A := by omega
      have lB : w.heap.size ≤ B := by omega
      have nAB : A ≠ B := by omega
      have nBA : B ≠ A := by omega
      have rA3 : Row v2 A 35 (scs a) := (hv1.old nv2.below)
      have rB3 : Row v2 B 35 (scs b) := hv2
      have bel3 : Below w.heap.size w v2 := (below_step (below_step (Below.refl _ _) (by omega) nv1.below) (by omega) nv2.below)
      clear q0 q1 q2 q3 Ae hv1 nv1 Be hv2 nv2
      refine (CA.out _ (HKW.out _ bel3)).mono ?_
      rintro e y4 ⟨rfl, hB⟩
      have rA4 : Row y4 A 35 (scs a) := rA3.old hB
      have rB4 : Row y4 B 35 (scs b) := rB3.old hB
      have bel4 : Below w.heap.size w y4 := below_step bel3 bel3.size hB
      clear hB rA3 rB3 bel3
      go_wp2_with (first
        | ((with_reducible refine at_slot 20 ?_); (refine arm_load (o := ⟨some 20, _, _, _, _, _⟩) rfl _ _ rfl A 0 rfl (scs a) ((show Has (scs a) 0 (scs a) from Has.refl _).range (rA4)) (sz_sta KA.out) ?_))
        | ((with_reducible refine at_slot 21 ?_); (refine arm_load (o := ⟨some 21, _, _, _, _, _⟩) rfl _ _ rfl B 0 rfl (scs b) ((show Has (scs b) 0 (scs b) from Has.refl _).range (rB4)) (sz_sta KB.out) ?_))
        | ((with_reducible refine at_slot 22 ?_); (refine arm_lit (K := kS) (o := ⟨some 22, _, _, _, _, _⟩) rfl fS [a, b] O2.out (by simp) _ _ rfl rfl (by simp only [List.map_toArray, List.map_cons, List.map_nil]; rfl) ?_); intro Q v5 Qe hv5 nv5))
      have q0 := Qe.out
      have q1 := nv5.size
      have q2 := rA4.lt
      have q3 := rB4.lt
      have q4 := bel4.size
      have lQ : w.heap.size ≤ Q := by omega
      have nAQ : A ≠ Q := by omega
      have nQA : Q ≠ A := by omega
      have nBQ : B ≠ Q := by omega
      have nQB : Q ≠ B := by omega
      have rA6 : Row v5 A 35 (scs a) := (rA4.old nv5.below)
      have rB6 : Row v5 B 35 (scs b) := (rB4.old nv5.below)
      have rQ6 : Row v5 Q kS.t (kS.all [a, b]) := hv5
      have bel6 : Below w.heap.size w v5 := (below_step bel4 (by omega) nv5.below)
      clear q0 q1 q2 q3 q4 rA4 rB4 bel4 Qe hv5 nv5
      refine (CR1.out _ Q (At.row fS O2.out rQ6 (List.append_nil _).symm)).mono ?_
      rintro e y7 ⟨rfl, hB⟩
      have rA7 : Row y7 A 35 (scs a) := rA6.old hB
      have rB7 : Row y7 B 35 (scs b) := rB6.old hB
      have rQ7 : Row y7 Q kS.t (kS.all [a, b]) := rQ6.old hB
      have bel7 : Below w.heap.size w y7 := below_step bel6 bel6.size hB
      clear hB rA6 rB6 rQ6 bel6
      clear rQ7
      go_wp2_with fail
      refine (CR2.out _ (HS.out.below bel7)).mono ?_
      rintro e y8 ⟨rfl, hB⟩
      have rA8 : Row y8 A 35 (scs a) := rA7.old hB
      have rB8 : Row y8 B 35 (scs b) := rB7.old hB
      have bel8 : Below w.heap.size w y8 := below_step bel7 bel7.size hB
      clear hB rA7 rB7 bel7
      go_wp2_with fail
      go_ret
      exact ⟨rfl, bel8⟩
  · rw [decide_eq_false hr] at CR1
    clear hr ka kb CR2
    go_enter Tryz.func3, Tryz.ntmps3
    go_wp2_with (first
      | ((with_reducible refine at_slot 3 ?_); (refine arm_box (o := ⟨some 3, _, _, _, _, _⟩) rfl _ _ rfl (scs a) rfl ?_); intro A v1 Ae hv1 nv1)
      | ((with_reducible refine at_slot 4 ?_); (refine arm_box (o := ⟨some 4, _, _, _, _, _⟩) rfl _ _ rfl (scs b) rfl ?_); intro B v2 Be hv2 nv2))
    have q0 := Ae.out
    have q1 := nv1.size
    have q2 := Be.out
    have q3 := nv2.size
    have lA : w.heap.size ≤ A := by omega
    have lB : w.heap.size ≤ B := by omega
    have nAB : A ≠ B := by omega
    have nBA : B ≠ A := by omega
    have rA3 : Row v2 A 35 (scs a) := (hv1.old nv2.below)
    have rB3 : Row v2 B 35 (scs b) := hv2
    have bel3 : Below w.heap.size w v2 := (below_step (below_step (Below.refl _ _) (by omega) nv1.below) (by omega) nv2.below)
    clear q0 q1 q2 q3 Ae hv1 nv1 Be hv2 nv2
    refine (CA.out _ (HKW.out _ bel3)).mono ?_
    rintro e y4 ⟨rfl, hB⟩
    have rA4 : Row y4 A 35 (scs a) := rA3.old hB
    have rB4 : Row y4 B 35 (scs b) := rB3.old hB
    have bel4 : Below w.heap.size w y4 := below_step bel3 bel3.size hB
    clear hB rA3 rB3 bel3
    go_wp2_with (first
      | ((with_reducible refine at_slot 20 ?_); (refine arm_load (o := ⟨some 20, _, _, _, _, _⟩) rfl _ _ rfl A 0 rfl (scs a) ((show Has (scs a) 0 (scs a) from Has.refl _).range (rA4)) (sz_sta KA.out) ?_))
      | ((with_reducible refine at_slot 21 ?_); (refine arm_load (o := ⟨some 21, _, _, _, _, _⟩) rfl _ _ rfl B 0 rfl (scs b) ((show Has (scs b) 0 (scs b) from Has.refl _).range (rB4)) (sz_sta KB.out) ?_))
      | ((with_reducible refine at_slot 22 ?_); (refine arm_lit (K := kS) (o := ⟨some 22, _, _, _, _, _⟩) rfl fS [a, b] O2.out (by simp) _ _ rfl rfl (by simp only [List.map_toArray, List.map_cons, List.map_nil]; rfl) ?_); intro Q v5 Qe hv5 nv5))
    have q0 := Qe.out
    have q1 := nv5.size
    have q2 := rA4.lt
    have q3 := rB4.lt
    have q4 := bel4.size
    have lQ : w.heap.size ≤ Q := by omega
    have nAQ : A ≠ Q := by omega
    have nQA : Q ≠ A := by omega
    have nBQ : B ≠ Q := by omega
    have nQB : Q ≠ B := by omega
    have rA6 : Row v5 A 35 (scs a) := (rA4.old nv5.below)
    have rB6 : Row v5 B 35 (scs b) := (rB4.old nv5.below)
    have rQ6 : Row v5 Q kS.t (kS.all [a, b]) := hv5
    have bel6 : Below w.heap.size w v5 := (below_step bel4 (by omega) nv5.below)
    clear q0 q1 q2 q3 q4 rA4 rB4 bel4 Qe hv5 nv5
    refine (CR1.out _ Q (At.row fS O2.out rQ6 (List.append_nil _).symm)).mono ?_
    rintro e y7 ⟨rfl, hB⟩
    have rA7 : Row y7 A 35 (scs a) := rA6.old hB
    have rB7 : Row y7 B 35 (scs b) := rB6.old hB
    have rQ7 : Row y7 Q kS.t (kS.all [a, b]) := rQ6.old hB
    have bel7 : Below w.heap.size w y7 := below_step bel6 bel6.size hB
    clear hB rA6 rB6 rQ6 bel6
    clear rQ7
    go_wp2_with fail
    go_ret
    exact ⟨rfl, bel7⟩
end Go.Proofs.YtffpifljeeikfaaGreatDoor.Cz
