/-
  The walk of layer 13's statement ChooseLast, out of the contracts: it returns true, and changes nothing that was there. Over this seat's translation.
-/
import Derived.Test.YtffpifljeeikfaaDoorChoAwake
import Derived.Test.YtffpifljeeikfaaDoorChoRight
namespace Go.Proofs.YtffpifljeeikfaaDoor.Cz
open Go.ChangeShapes Go.WideShapes Go.ChangeAt Go.RowKit Go.Proofs.YtffpifljeeikfaaDoor.Mem Go.Proofs.YtffpifljeeikfaaDoor.Bt Go.Proofs.YtffpifljeeikfaaDoor.Sa Go.Proofs.YtffpifljeeikfaaDoor.Sl
open Go.Proofs.YtffpifljeeikfaaDoor.Od (Ky kcs kcmp kval keyN keyN_ok cmpN_neg cmpN_pos sz_key)
open Go.Proofs.YtffpifljeeikfaaDoor.Lk (kS fS)
open Go.Proofs.YtffpifljeeikfaaDoor.Wn (wcs WRt)
open Go.Proofs.YtffpifljeeikfaaDoor.Ep (H32 zh zh_ok num32 Has h_len one_app one_num szH zH fitH allH)
open Go.Proofs.YtffpifljeeikfaaDoor.Sha (ks)
set_option linter.unusedVariables false
set_option linter.unusedSimpArgs false

set_option maxHeartbeats 4000000 in
set_option maxRecDepth 100000 in
theorem chooseLast_any (t : Sta) (l : List Sta) (P : Option Addr) (pc : Nat) (w : World) (kt : t.Ok) (hs : At kS w P l) (hpc : l.length ≤ pc) (hm : l.length ≤ maxLen) (hby : l.length * 396 ≤ 140737488351232) (hk : w.rangeAt 0 0 (u32s ks)) :
    Calls Tryd.prog 5 #[.agg (scs t).toArray, .slice P l.length pc] w fun e w' => e = .returned (.bool true) ∧ Below w.heap.size w w' := by
  have hk1 : 0 < w.heap.size := range_lt hk (by simp [u32s, ks])
  have HKW : Hid (∀ w', Below w.heap.size w w' → w'.rangeAt 0 0 (u32s ks)) := Lib.hid fun w' hb => range_block hk (hb.block _ hk1)
  have HK1 := Lib.hid hk1
  have KT := Lib.hid kt; have HS := Lib.hid hs; have HBY := Lib.hid hby; have HPC := Lib.hid hpc
  have CA := Lib.hid (fun w0 h => awake_any w0 h)
  obtain ⟨ll, hll⟩ : ∃ ll, ([t] ++ l).length = ll := ⟨_, rfl⟩
  have HLL := Lib.hid hll
  obtain ⟨ln, hln⟩ : ∃ ln, l.length = ln := ⟨_, rfl⟩
  have HLN : Hid (ln = l.length) := Lib.hid hln.symm
  have CRt : Hid (∀ w0 p c, At kS w0 p ([t] ++ l) → Calls Tryd.prog 7 #[.slice p ll c] w0 fun e w' => e = .returned (.bool (decide (RtL ([t] ++ l)))) ∧ Below w0.heap.size w0 w') := Lib.hid fun w0 p c h => by
    have c1 := right13_any ([t] ++ l) p c w0 h (by simp only [List.length_append, List.length_cons, List.length_nil, maxLen]; omega)
    rw [hll] at c1
    exact c1
  rw [hln]
  have hs0 := hs
  clear hk hk1 hs hpc hm hby hll
  by_cases hr : RtL ([t] ++ l)
  · rw [decide_eq_true hr] at CRt
    have rt := hr.1 t (by simp); have rl := fun s hs => hr.1 s (List.mem_append_right [t] hs)
    have h20 : l.length ≤ 19 := by have := hr.2; rw [List.length_append] at this; simp only [List.length_cons, List.length_nil] at this; omega
    clear hr
    by_cases h0 : l = []
    · have CF : Hid (∀ w0, At kS w0 P l → w0.rangeAt 0 0 (u32s ks) → Calls Tryd.prog 14 #[.agg (scs t).toArray, .slice P ln pc] w0 fun e w' => e = .returned (.tuple #[.agg (scs (foldF t l).1).toArray, .int .i64 (((foldF t l).2 : Nat) : Int)]) ∧ Below w0.heap.size w0 w') := Lib.hid fun w0 h hk => by
        have c := fold_any t l P pc w0 kt rt h rl (by omega) hk
        rw [hln] at c
        exact c
      rw [show foldF t l = (t, 0) by rw [h0]; rfl] at CF
      obtain rfl : ln = 0 := by rw [← hln, h0]; rfl
      clear h0 hln rt rl h20 kt
      go_enter Tryd.func5, Tryd.ntmps5
      go_wp2_with (first
        | ((with_reducible refine at_slot 2 ?_); (refine arm_box (o := ⟨some 2, _, _, _, _, _⟩) rfl _ _ rfl (scs t) rfl ?_); intro A v1 Ae hv1 nv1))
      have q0 := Ae.out
      have q1 := nv1.size
      have lA : w.heap.size ≤ A := by omega
      have rA2 : Row v1 A 35 (scs t) := hv1
      have bel2 : Below w.heap.size w v1 := (below_step (Below.refl _ _) (by omega) nv1.below)
      clear q0 q1 Ae hv1 nv1
      refine (CA.out _ (HKW.out _ bel2)).mono ?_
      rintro e y3 ⟨rfl, hB⟩
      have rA3 : Row y3 A 35 (scs t) := rA2.old hB
      have bel3 : Below w.heap.size w y3 := below_step bel2 bel2.size hB
      clear hB rA2 bel2
      go_wp2_with (first
        | ((with_reducible refine at_slot 12 ?_); (refine arm_load (o := ⟨some 12, _, _, _, _, _⟩) rfl _ _ rfl A 0 rfl (scs t) ((show Has (scs t) 0 (scs t) from Has.refl _).range (rA3)) (sz_sta KT.out) ?_))
        | ((with_reducible refine at_slot 13 ?_); (refine arm_lit (K := kS) (o := ⟨some 13, _, _, _, _, _⟩) rfl fS [t] (allOk_cons KT.out allOk_nil) (by simp) _ _ rfl rfl (by simp only [List.map_toArray, List.map_cons, List.map_nil]; rfl) ?_); intro Q vq Qe hvq nvq)
        | ((with_reducible refine at_slot 15 ?_); (refine arm_appendB (K := kS) (o := ⟨some 15, _, _, _, _, _⟩) rfl fS _ _ rfl (w.heap.size) (some ⟨Q, 0, none⟩) _ 1 ([t]) rfl rfl (Sl.Own.row (base := w.heap.size) fS (allOk_cons KT.out allOk_nil) (by have := Qe.out; have := bel3.size; omega) (by simp [maxLen]) hvq) (_) _ _ (l) rfl HLN.out ((HS.out.below bel3).below nvq.below) (by have := HBY.out; simp only [List.length_cons, List.length_nil, maxLen]; omega) (by have := HBY.out; simp only [List.length_cons, List.length_nil]; omega) (by have := bel3.size; have := nvq.size; omega) ?_); intro p2 c2 vz hO hBZ hkp hat; rw [HLL.out]))
      have qA := rA3.lt
      have nAQ : A ≠ Q := by have := Qe.out; omega
      have belz : Below w.heap.size w vz := (below_step bel3 bel3.size nvq.below).trans hBZ
      have rAz : Row vz A 35 (scs t) := (hkp.out A (by have := nvq.size; omega) (fun e => nAQ (by have h1 : Q = A := Option.some.inj e; omega))).trans (rA3.old nvq.below)
      clear rA3 bel3 qA nAQ Qe hvq nvq hBZ hkp hat
      refine (CRt.out _ p2 c2 (hO.at fS)).mono ?_
      rintro e y4 ⟨rfl, hB⟩
      have rA4 : Row y4 A 35 (scs t) := rAz.old hB
      have bel4 : Below w.heap.size w y4 := below_step belz belz.size hB
      clear hB rAz belz
      clear hO
      go_wp2_with (first
        | ((with_reducible refine at_slot 19 ?_); (refine arm_load (o := ⟨some 19, _, _, _, _, _⟩) rfl _ _ rfl A 0 rfl (scs t) ((show Has (scs t) 0 (scs t) from Has.refl _).range (rA4)) (sz_sta KT.out) ?_)))
      refine (CF.out _ (HS.out.below bel4) (HKW.out _ bel4)).mono ?_
      rintro e y5 ⟨rfl, hB⟩
      have rA5 : Row y5 A 35 (scs t) := rA4.old hB
      have bel5 : Below w.heap.size w y5 := below_step bel4 bel4.size hB
      clear hB rA4 bel4
      go_wp2_with (first
        | ((with_reducible refine at_slot 5 ?_); (refine arm_alloc (o := ⟨some 5, _, _, _, _, _⟩) rfl _ rfl (scs zs) z_sta ?_); intro V v6 Ve hv6 nv6)
        | ((with_reducible refine arm_store (o := ⟨none, _, _, _, _, _⟩) rfl _ _ _ rfl V 0 rfl (scs t) rfl _ _ (hv6) (fitS KT.out) (scs_one _) (sz_sta KT.out) ?_); intro v7 hv7 ov7 sv7)
        | ((with_reducible refine at_slot 27 ?_); (refine arm_load (o := ⟨some 27, _, _, _, _, _⟩) rfl _ _ rfl V 0 rfl (scs t) ((show Has (scs t) 0 (scs t) from Has.refl _).range ((hv7.congr (allS KT.out)))) (sz_sta KT.out) ?_))
        | ((with_reducible refine at_slot 28 ?_); (refine arm_load (o := ⟨some 28, _, _, _, _, _⟩) rfl _ _ rfl A 0 rfl (scs t) ((show Has (scs t) 0 (scs t) from Has.refl _).range (((rA5.old nv6.below).only ov7 (by have := rA5.lt; have := Ve.out; have := nv6.size; have := sv7.out; omega)))) (sz_sta KT.out) ?_))
        | ((with_reducible refine at_slot 29 ?_); (refine arm_want (.bool true) 29 rfl (by kernel_rfl) (run_op_eqlS KT.out KT.out _ _ _ rfl rfl rfl true (by simp) _) ?_)))
      have q0 := Ve.out
      have q1 := nv6.size
      have q2 := sv7.out
      have q3 := rA5.lt
      have q4 := bel5.size
      have lV : w.heap.size ≤ V := by omega
      have nAV : A ≠ V := by omega
      have nVA : V ≠ A := by omega
      have rA8 : Row v7 A 35 (scs t) := ((rA5.old nv6.below).only ov7 nAV)
      have rV8 : Row v7 V 35 (scs t) := (hv7.congr (allS KT.out))
      have bel8 : Below w.heap.size w v7 := (below_only (below_step bel5 (by omega) nv6.below) ov7 lV (by omega))
      clear q0 q1 q2 q3 q4 rA5 bel5 Ve hv6 nv6 hv7 ov7 sv7
      go_ret
      exact ⟨rfl, bel8⟩
    · have CF : Hid (∀ w0, At kS w0 P l → w0.rangeAt 0 0 (u32s ks) → Calls Tryd.prog 14 #[.agg (scs t).toArray, .slice P ln pc] w0 fun e w' => e = .returned (.tuple #[.agg (scs (foldF t l).1).toArray, .int .i64 (((foldF t l).2 : Nat) : Int)]) ∧ Below w0.heap.size w0 w') := Lib.hid fun w0 h hk => by
        have c := fold_any t l P pc w0 kt rt h rl (by omega) hk
        rw [hln] at c
        exact c
      obtain ⟨m, rfl⟩ : ∃ m, ln = m + 1 := ⟨ln - 1, by have := List.length_pos_iff.2 h0; omega⟩
      have hmlt : m < l.length := by omega
      have hm19 : m < 19 := by omega
      have hfold : foldF t l = stepF (foldF t (l.take m)) l[m] := by
        have h := foldF_take (t := t) (List.getElem?_eq_getElem hmlt)
        rwa [show m + 1 = l.length by omega, List.take_length] at h
      obtain ⟨c, g, o, hc, kc, hP, hgl, hrs⟩ := hs0.get hmlt
      have ec : l[m] = c := Option.some.inj ((List.getElem?_eq_getElem hmlt).symm.trans hc)
      rw [ec] at hfold
      have CF2 : Hid (∀ w0, At kS w0 P l → w0.rangeAt 0 0 (u32s ks) → Calls Tryd.prog 14 #[.agg (scs t).toArray, .slice P m pc] w0 fun e w' => e = .returned (.tuple #[.agg (scs (foldF t (l.take m)).1).toArray, .int .i64 (((foldF t (l.take m)).2 : Nat) : Int)]) ∧ Below w0.heap.size w0 w') := Lib.hid fun w0 h hk => by
        have c := fold_any t (l.take m) P pc w0 kt rt (h.take m) (fun s hs => rl s (List.mem_of_mem_take hs)) (by rw [List.length_take]; omega) hk
        rw [show (l.take m).length = m by rw [List.length_take]; omega] at c
        exact c
      have kq : (foldF t (l.take m)).1.Ok := fold_take_ok kt hs0.ok m
      have rq : SRt (foldF t (l.take m)).1 := fold_take_right rt rl m
      have rc : SRt c := rl c (List.mem_of_getElem? hc)
      have hn : (foldF t (l.take m)).2 ≤ 19 := Nat.le_trans (foldF_le _ _) (by rw [List.length_take]; omega)
      have HM : Hid (IntKind.i64.wrap (((m + 1 : Nat) : Int) - 1) = (m : Int)) := Lib.hid (by rw [IntKind.wrap_i64]; omega)
      have HMP : Hid (m ≤ pc) := Lib.hid (by have := HPC.out; omega)
      generalize foldF t (l.take m) = qq at hfold CF2 kq rq hn
      obtain ⟨q, n⟩ := qq
      simp only at CF2 kq rq hn
      have RTc := Lib.hid hrs; have KC := Lib.hid kc; have KQ := Lib.hid kq; have HGL := Lib.hid hgl
      have W0 := Lib.hid (fun w0 h => wins_any q c w0 kq kc rq rc h)
      have WC := Lib.hid (fun w0 h => wins_any c c w0 kc kc rc rc h)
      rw [decide_eq_false (win_self c)] at WC
      subst hP
      clear h0 hln rt rl h20 kt hrs hc kc ec rq rc kq hgl
      by_cases hw : winP q c
      · rw [decide_eq_true hw] at W0; rw [hfold, step_win (q := (q, n)) hw] at CF
        have n19 : n < 100 := by omega
        clear hw hfold hn
        go_enter Tryd.func5, Tryd.ntmps5
        go_wp2_with (first
          | ((with_reducible refine at_slot 2 ?_); (refine arm_box (o := ⟨some 2, _, _, _, _, _⟩) rfl _ _ rfl (scs t) rfl ?_); intro A v1 Ae hv1 nv1))
        have q0 := Ae.out
        have q1 := nv1.size
        have lA : w.heap.size ≤ A := by omega
        have rA2 : Row v1 A 35 (scs t) := hv1
        have bel2 : Below w.heap.size w v1 := (below_step (Below.refl _ _) (by omega) nv1.below)
        clear q0 q1 Ae hv1 nv1
        refine (CA.out _ (HKW.out _ bel2)).mono ?_
        rintro e y3 ⟨rfl, hB⟩
        have rA3 : Row y3 A 35 (scs t) := rA2.old hB
        have bel3 : Below w.heap.size w y3 := below_step bel2 bel2.size hB
        clear hB rA2 bel2
        go_wp2_with (first
          | ((with_reducible refine at_slot 12 ?_); (refine arm_load (o := ⟨some 12, _, _, _, _, _⟩) rfl _ _ rfl A 0 rfl (scs t) ((show Has (scs t) 0 (scs t) from Has.refl _).range (rA3)) (sz_sta KT.out) ?_))
          | ((with_reducible refine at_slot 13 ?_); (refine arm_lit (K := kS) (o := ⟨some 13, _, _, _, _, _⟩) rfl fS [t] (allOk_cons KT.out allOk_nil) (by simp) _ _ rfl rfl (by simp only [List.map_toArray, List.map_cons, List.map_nil]; rfl) ?_); intro Q vq Qe hvq nvq)
          | ((with_reducible refine at_slot 15 ?_); (refine arm_appendB (K := kS) (o := ⟨some 15, _, _, _, _, _⟩) rfl fS _ _ rfl (w.heap.size) (some ⟨Q, 0, none⟩) _ 1 ([t]) rfl rfl (Sl.Own.row (base := w.heap.size) fS (allOk_cons KT.out allOk_nil) (by have := Qe.out; have := bel3.size; omega) (by simp [maxLen]) hvq) (_) _ _ (l) rfl HLN.out ((HS.out.below bel3).below nvq.below) (by have := HBY.out; simp only [List.length_cons, List.length_nil, maxLen]; omega) (by have := HBY.out; simp only [List.length_cons, List.length_nil]; omega) (by have := bel3.size; have := nvq.size; omega) ?_); intro p2 c2 vz hO hBZ hkp hat; rw [HLL.out]))
        have qA := rA3.lt
        have nAQ : A ≠ Q := by have := Qe.out; omega
        have belz : Below w.heap.size w vz := (below_step bel3 bel3.size nvq.below).trans hBZ
        have rAz : Row vz A 35 (scs t) := (hkp.out A (by have := nvq.size; omega) (fun e => nAQ (by have h1 : Q = A := Option.some.inj e; omega))).trans (rA3.old nvq.below)
        clear rA3 bel3 qA nAQ Qe hvq nvq hBZ hkp hat
        refine (CRt.out _ p2 c2 (hO.at fS)).mono ?_
        rintro e y4 ⟨rfl, hB⟩
        have rA4 : Row y4 A 35 (scs t) := rAz.old hB
        have bel4 : Below w.heap.size w y4 := below_step belz belz.size hB
        clear hB rAz belz
        clear hO
        go_wp2_with (first
          | ((with_reducible refine at_slot 19 ?_); (refine arm_load (o := ⟨some 19, _, _, _, _, _⟩) rfl _ _ rfl A 0 rfl (scs t) ((show Has (scs t) 0 (scs t) from Has.refl _).range (rA4)) (sz_sta KT.out) ?_)))
        refine (CF.out _ (HS.out.below bel4) (HKW.out _ bel4)).mono ?_
        rintro e y5 ⟨rfl, hB⟩
        have rA5 : Row y5 A 35 (scs t) := rA4.old hB
        have bel5 : Below w.heap.size w y5 := below_step bel4 bel4.size hB
        clear hB rA4 bel4
        go_wp2_with (first
          | ((with_reducible refine at_slot 5 ?_); (refine arm_alloc (o := ⟨some 5, _, _, _, _, _⟩) rfl _ rfl (scs zs) z_sta ?_); intro V v6 Ve hv6 nv6)
          | ((with_reducible refine arm_store (o := ⟨none, _, _, _, _, _⟩) rfl _ _ _ rfl V 0 rfl (scs c) rfl _ _ (hv6) (fitS KC.out) (scs_one _) (sz_sta KC.out) ?_); intro v7 hv7 ov7 sv7))
        have q0 := Ve.out
        have q1 := nv6.size
        have q2 := sv7.out
        have q3 := rA5.lt
        have q4 := bel5.size
        have lV : w.heap.size ≤ V := by omega
        have nAV : A ≠ V := by omega
        have nVA : V ≠ A := by omega
        have rA8 : Row v7 A 35 (scs t) := ((rA5.old nv6.below).only ov7 nAV)
        have rV8 : Row v7 V 35 (scs c) := (hv7.congr (allS KC.out))
        have bel8 : Below w.heap.size w v7 := (below_only (below_step bel5 (by omega) nv6.below) ov7 lV (by omega))
        clear q0 q1 q2 q3 q4 rA5 bel5 Ve hv6 nv6 hv7 ov7 sv7
        have lA := rA8.lt; have hAt := HS.out.below bel8
        go_cut [7, 8] (fun nn ee wx => ∃ N : Nat, nn = .pointer (some ⟨N, 0, none⟩) ∧ ee = .int .i64 (n : Int) ∧ Row wx N 35 (scs q) ∧ Below v7.heap.size v7 wx ∧ v7.heap.size ≤ N)
        case first =>
          obtain ⟨Z, hZ⟩ : ∃ Z, Z = v7.heap.size := ⟨_, rfl⟩
          refine wp_region_held (S := fun w' => Below Z v7.drew w') (by kernel_rfl) ?_
          change wpAnyH _ _ _ _ _ _ _ _ v7.drew
          have rAz2 : Row v7.drew A 35 (scs t) := rA8
          have atz : At kS v7.drew (some ⟨g, o, none⟩) l := hAt.below (Below.refl _ _).drew
          have kz : v7.drew.rangeAt 0 0 (u32s ks) := HKW.out _ (bel8.trans (Below.refl _ _).drew)
          have belz : Below v7.heap.size v7 v7.drew := (Below.refl _ _).drew
          have hS : Below Z v7.drew v7.drew := Below.refl _ _
          have ez : v7.drew.heap.size = v7.heap.size := rfl
          have ZL : Hid (Z ≤ v7.drew.heap.size) := Lib.hid (by omega)
          have ZE : Hid (v7.drew.heap.size = Z) := Lib.hid (by omega)
          have ZW := Lib.hid hZ
          generalize v7.drew = wz at rAz2 atz kz belz hS ZL ZE ⊢
          clear hZ ez
          refine h_take 0 (.agg (scs t).toArray) rfl 35 rfl (by kernel_rfl) (by kernel_rfl) (by kernel_rfl) (by kernel_rfl) (fun _ _ _ h => h) (fun w' hC => run_op_load _ _ rfl A 0 rfl (scs t) ((Has.refl _).range (rAz2.below hC (ZW.out ▸ lA))) (sz_sta KT.out)) hS ?_
          simp only [Act.put, List.setIfInBounds_toArray, List.set_cons_zero, List.set_cons_succ]
          refine h_take 1 (.slice (some ⟨g, o, none⟩) (m + 1) pc) rfl 36 rfl (by kernel_rfl) (by kernel_rfl) (by kernel_rfl) (by kernel_rfl) (fun _ _ _ h => h) (fun w' _ => by kernel_rfl) hS ?_
          simp only [Act.put, List.setIfInBounds_toArray, List.set_cons_zero, List.set_cons_succ]
          refine h_take 2 (.slice (some ⟨g, o, none⟩) (m + 1) pc) rfl 37 rfl (by kernel_rfl) (by kernel_rfl) (by kernel_rfl) (by kernel_rfl) (fun _ _ _ h => h) (fun w' _ => by kernel_rfl) hS ?_
          simp only [Act.put, List.setIfInBounds_toArray, List.set_cons_zero, List.set_cons_succ]
          refine h_take 3 (.int .i64 ((m + 1 : Nat) : Int)) rfl 38 rfl (by kernel_rfl) (by kernel_rfl) (by kernel_rfl) (by kernel_rfl) (fun _ _ _ h => h) (fun w' _ => run_op_lenK _ _ _ rfl fS.und _ _ _ rfl w') hS ?_
          simp only [Act.put, List.setIfInBounds_toArray, List.set_cons_zero, List.set_cons_succ]
          refine h_take 4 (.int .i64 (m : Int)) rfl 39 rfl (by kernel_rfl) (by kernel_rfl) (by kernel_rfl) (by kernel_rfl) (fun _ _ _ h => h) (fun w' _ => Lk.run_op_sub64 _ _ _ _ rfl _ _ _ rfl rfl HM.out w') hS ?_
          simp only [Act.put, List.setIfInBounds_toArray, List.set_cons_zero, List.set_cons_succ]
          refine h_take 5 (.slice (some ⟨g, o, none⟩) m pc) rfl 40 rfl (by kernel_rfl) (by kernel_rfl) (by kernel_rfl) (by kernel_rfl) (fun _ _ _ h => h) (fun w' _ => run_op_head fS _ _ rfl _ _ _ rfl .i64 _ rfl m rfl HMP.out w') hS ?_
          simp only [Act.put, List.setIfInBounds_toArray, List.set_cons_zero, List.set_cons_succ]
          refine h_two (i := 6) (j := 10) (by kernel_rfl) ?_ ?_
          · skip
            refine (o_call rfl 41 rfl (by kernel_rfl) (run_op_call 14 _ _ rfl #[.agg (scs t).toArray, .slice (some ⟨g, o, none⟩) m pc] (by simp only [List.map_toArray, List.map_cons, List.map_nil]; rfl) Tryd.func14 (by kernel_rfl) (by kernel_rfl) _) (CF2.out _ (atz.below (by rw [ZE.out]; exact hS)) (range_block kz (hS.block _ (by have := ZW.out; have := bel8.size; have := HK1.out; omega)))) ?_)
            rintro e y1 ⟨rfl, hB⟩
            have hS1 : Below Z wz y1 := below_step hS (Nat.le_trans ZL.out hS.size) hB
            refine ⟨_, rfl, hS1, ?_⟩
            clear hB
            simp only [Act.put, List.setIfInBounds_toArray, List.set_cons_zero, List.set_cons_succ]
            refine h_take 7 (.tuple #[.agg (scs q).toArray, .int .i64 (n : Int)]) rfl 34 rfl (by kernel_rfl) (by kernel_rfl) (by kernel_rfl) (by kernel_rfl) (fun _ _ _ h => h) (fun w' _ => by kernel_rfl) hS1 ?_
            simp only [Act.put, List.setIfInBounds_toArray, List.set_cons_zero, List.set_cons_succ]
            refine h_take 8 (.agg (scs q).toArray) rfl 42 rfl (by kernel_rfl) (by kernel_rfl) (by kernel_rfl) (by kernel_rfl) (fun _ _ _ h => h) (fun w' _ => by kernel_rfl) hS1 ?_
            simp only [Act.put, List.setIfInBounds_toArray, List.set_cons_zero, List.set_cons_succ]
            refine h_take 9 (.int .i64 (n : Int)) rfl 43 rfl (by kernel_rfl) (by kernel_rfl) (by kernel_rfl) (by kernel_rfl) (fun _ _ _ h => h) (fun w' _ => by kernel_rfl) hS1 ?_
            simp only [Act.put, List.setIfInBounds_toArray, List.set_cons_zero, List.set_cons_succ]
            refine h_one (i := 10) (by kernel_rfl) (o_value _ rfl 7 rfl (by kernel_rfl) (run_op_alloc _ rfl (scs zs) z_sta) ?_)
            have hN := new_alloc y1 (.cells (scs zs).toArray 35)
            have rN2 : Row (y1.alloc (.cells (scs zs).toArray 35)) y1.heap.size 35 (scs zs) := heap_alloc_new _ _
            have lN : Z ≤ y1.heap.size := Nat.le_trans ZL.out hS1.size
            generalize y1.alloc (.cells (scs zs).toArray 35) = y2 at hN rN2 ⊢
            have hS2 : Below Z wz y2 := below_step hS1 (Nat.le_trans ZL.out hS1.size) hN.below
            clear hN
            refine ⟨hS2, ?_⟩
            generalize y1.heap.size = N at rN2 lN ⊢
            simp only [Act.put, List.setIfInBounds_toArray, List.set_cons_zero, List.set_cons_succ]
            refine h_one (i := 11) (by kernel_rfl) (o_skip rfl rfl (by kernel_rfl) (run_op_store _ _ _ rfl N 0 rfl (scs q) rfl _ _ rN2 (fitS KQ.out) (scs_one _) (sz_sta KQ.out)) ?_)
            have rNf := row_setRow rN2 (lay (scs zs) 0 (scs q))
            have oNf := Only.setRow N y2 (lay (scs zs) 0 (scs q)).toArray
            generalize y2.setRow N (lay (scs zs) 0 (scs q)).toArray = yf at rNf oNf ⊢
            have hSf : Below Z wz yf := below_only hS2 oNf lN (Nat.le_trans ZL.out hS2.size)
            refine ⟨hSf, ?_⟩
            refine h_take 12 (.int .i64 (n : Int)) rfl 8 rfl (by kernel_rfl) (by kernel_rfl) (by kernel_rfl) (by kernel_rfl) (fun _ _ _ h => h) (fun w' _ => by kernel_rfl) hSf ?_
            simp only [Act.put, List.setIfInBounds_toArray, List.set_cons_zero, List.set_cons_succ]
            refine wpAnyH_done (by kernel_rfl) ?_ _
            go_wp2_with fail
            go_meet
            exact ⟨N, rfl, rfl, rNf.congr (allS KQ.out), belz.trans (ZW.out ▸ hSf), ZW.out ▸ lN⟩
          · skip
            refine (o_value _ rfl 7 rfl (by kernel_rfl) (run_op_alloc _ rfl (scs zs) z_sta) ?_)
            have hN := new_alloc wz (.cells (scs zs).toArray 35)
            have rN1 : Row (wz.alloc (.cells (scs zs).toArray 35)) wz.heap.size 35 (scs zs) := heap_alloc_new _ _
            have lN : Z ≤ wz.heap.size := Nat.le_trans ZL.out hS.size
            generalize wz.alloc (.cells (scs zs).toArray 35) = y1 at hN rN1 ⊢
            have hS1 : Below Z wz y1 := below_step hS (Nat.le_trans ZL.out hS.size) hN.below
            clear hN
            refine ⟨hS1, ?_⟩
            generalize wz.heap.size = N at rN1 lN ⊢
            simp only [Act.put, List.setIfInBounds_toArray, List.set_cons_zero, List.set_cons_succ]
            refine h_one (i := 6) (by kernel_rfl) (o_call rfl 41 rfl (by kernel_rfl) (run_op_call 14 _ _ rfl #[.agg (scs t).toArray, .slice (some ⟨g, o, none⟩) m pc] (by simp only [List.map_toArray, List.map_cons, List.map_nil]; rfl) Tryd.func14 (by kernel_rfl) (by kernel_rfl) _) (CF2.out _ (atz.below (by rw [ZE.out]; exact hS1)) (range_block kz (hS1.block _ (by have := ZW.out; have := bel8.size; have := HK1.out; omega)))) ?_)
            rintro e y2 ⟨rfl, hB⟩
            have hS2 : Below Z wz y2 := below_step hS1 (Nat.le_trans ZL.out hS1.size) hB
            refine ⟨_, rfl, hS2, ?_⟩
            have rN2 := rN1.old hB
            clear hB
            simp only [Act.put, List.setIfInBounds_toArray, List.set_cons_zero, List.set_cons_succ]
            refine h_take 7 (.tuple #[.agg (scs q).toArray, .int .i64 (n : Int)]) rfl 34 rfl (by kernel_rfl) (by kernel_rfl) (by kernel_rfl) (by kernel_rfl) (fun _ _ _ h => h) (fun w' _ => by kernel_rfl) hS2 ?_
            simp only [Act.put, List.setIfInBounds_toArray, List.set_cons_zero, List.set_cons_succ]
            refine h_take 8 (.agg (scs q).toArray) rfl 42 rfl (by kernel_rfl) (by kernel_rfl) (by kernel_rfl) (by kernel_rfl) (fun _ _ _ h => h) (fun w' _ => by kernel_rfl) hS2 ?_
            simp only [Act.put, List.setIfInBounds_toArray, List.set_cons_zero, List.set_cons_succ]
            refine h_take 9 (.int .i64 (n : Int)) rfl 43 rfl (by kernel_rfl) (by kernel_rfl) (by kernel_rfl) (by kernel_rfl) (fun _ _ _ h => h) (fun w' _ => by kernel_rfl) hS2 ?_
            simp only [Act.put, List.setIfInBounds_toArray, List.set_cons_zero, List.set_cons_succ]
            refine h_one (i := 11) (by kernel_rfl) (o_skip rfl rfl (by kernel_rfl) (run_op_store _ _ _ rfl N 0 rfl (scs q) rfl _ _ rN2 (fitS KQ.out) (scs_one _) (sz_sta KQ.out)) ?_)
            have rNf := row_setRow rN2 (lay (scs zs) 0 (scs q))
            have oNf := Only.setRow N y2 (lay (scs zs) 0 (scs q)).toArray
            generalize y2.setRow N (lay (scs zs) 0 (scs q)).toArray = yf at rNf oNf ⊢
            have hSf : Below Z wz yf := below_only hS2 oNf lN (Nat.le_trans ZL.out hS2.size)
            refine ⟨hSf, ?_⟩
            refine h_take 12 (.int .i64 (n : Int)) rfl 8 rfl (by kernel_rfl) (by kernel_rfl) (by kernel_rfl) (by kernel_rfl) (fun _ _ _ h => h) (fun w' _ => by kernel_rfl) hSf ?_
            simp only [Act.put, List.setIfInBounds_toArray, List.set_cons_zero, List.set_cons_succ]
            refine wpAnyH_done (by kernel_rfl) ?_ _
            go_wp2_with fail
            go_meet
            exact ⟨N, rfl, rfl, rNf.congr (allS KQ.out), belz.trans (ZW.out ▸ hSf), ZW.out ▸ lN⟩
        case rest =>
          obtain ⟨N, rfl, rfl, rN, hbx, lN⟩ := hcut
          have rA9 := rA8.old hbx; have rV9 := rV8.old hbx
          have lV := rV8.lt
          have nAN : A ≠ N := by omega
          have nVN : V ≠ N := by omega
          have nNA := Ne.symm nAN; have nNV := Ne.symm nVN
          have lN2 : w.heap.size ≤ N := Nat.le_trans bel8.size lN
          have bel9 : Below w.heap.size w wc := below_step bel8 bel8.size hbx
          have RT9 := Lib.hid (range_block RTc.out (bel9.block g HGL.out))
          clear rA8 rV8 bel8 lA lV hAt hbx CF CF2 rA9
          go_wp2_with (first
            | ((with_reducible refine at_slot 48 ?_); (refine arm_want (.pointer (some ⟨g, o + m * 363, none⟩)) 48 rfl (by kernel_rfl) (run_op_index fS _ _ rfl g o _ _ rfl .i64 _ rfl m (by first | rfl | omega | (rw [IntKind.wrap_i64]; omega)) (by omega) _) ?_))
            | ((with_reducible refine at_slot 49 ?_); (refine arm_load (o := ⟨some 49, _, _, _, _, _⟩) rfl _ _ rfl g (o + m * 363) rfl (scs c) (RT9.out) (sz_sta KC.out) ?_))
            | ((with_reducible refine at_slot 9 ?_); (refine arm_alloc (o := ⟨some 9, _, _, _, _, _⟩) rfl _ rfl (scs zs) z_sta ?_); intro C v301 Ce hv301 nv301)
            | ((with_reducible refine arm_store (o := ⟨none, _, _, _, _, _⟩) rfl _ _ _ rfl C 0 rfl (scs c) rfl _ _ (hv301) (fitS KC.out) (scs_one _) (sz_sta KC.out) ?_); intro v302 hv302 ov302 sv302)
            | ((with_reducible refine at_slot 50 ?_); (refine arm_load (o := ⟨some 50, _, _, _, _, _⟩) rfl _ _ rfl N 0 rfl (scs q) ((show Has (scs q) 0 (scs q) from Has.refl _).range (((rN.old nv301.below).only ov302 (by have := rN.lt; have := Ce.out; have := nv301.size; have := sv302.out; omega)))) (sz_sta KQ.out) ?_))
            | ((with_reducible refine at_slot 51 ?_); (refine arm_load (o := ⟨some 51, _, _, _, _, _⟩) rfl _ _ rfl C 0 rfl (scs c) ((show Has (scs c) 0 (scs c) from Has.refl _).range ((hv302.congr (allS KC.out)))) (sz_sta KC.out) ?_)))
          have q0 := Ce.out
          have q1 := nv301.size
          have q2 := sv302.out
          have q3 := rV9.lt
          have q4 := rN.lt
          have q5 := bel9.size
          have lC : w.heap.size ≤ C := by omega
          have nVC : V ≠ C := by omega
          have nCV : C ≠ V := by omega
          have nNC : N ≠ C := by omega
          have nCN : C ≠ N := by omega
          have rV303 : Row v302 V 35 (scs c) := ((rV9.old nv301.below).only ov302 nVC)
          have rN303 : Row v302 N 35 (scs q) := ((rN.old nv301.below).only ov302 nNC)
          have rC303 : Row v302 C 35 (scs c) := (hv302.congr (allS KC.out))
          have bel303 : Below w.heap.size w v302 := (below_only (below_step bel9 (by omega) nv301.below) ov302 lC (by omega))
          clear q0 q1 q2 q3 q4 q5 rV9 rN bel9 Ce hv301 nv301 hv302 ov302 sv302
          refine (W0.out _ (HKW.out _ bel303)).mono ?_
          rintro e y304 ⟨rfl, hB⟩
          have rV304 : Row y304 V 35 (scs c) := rV303.old hB
          have rN304 : Row y304 N 35 (scs q) := rN303.old hB
          have rC304 : Row y304 C 35 (scs c) := rC303.old hB
          have bel304 : Below w.heap.size w y304 := below_step bel303 bel303.size hB
          clear hB rV303 rN303 rC303 bel303
          go_wp2_with (first
            | ((with_reducible refine at_slot 53 ?_); (refine arm_load (o := ⟨some 53, _, _, _, _, _⟩) rfl _ _ rfl V 0 rfl (scs c) ((show Has (scs c) 0 (scs c) from Has.refl _).range (rV304)) (sz_sta KC.out) ?_))
            | ((with_reducible refine at_slot 54 ?_); (refine arm_load (o := ⟨some 54, _, _, _, _, _⟩) rfl _ _ rfl C 0 rfl (scs c) ((show Has (scs c) 0 (scs c) from Has.refl _).range (rC304)) (sz_sta KC.out) ?_))
            | ((with_reducible refine at_slot 55 ?_); (refine arm_want (.bool true) 55 rfl (by kernel_rfl) (run_op_eqlS KC.out KC.out _ _ _ rfl rfl rfl true (by simp) _) ?_))
            | ((with_reducible refine at_slot 63 ?_); (refine arm_want (.agg (scs c).toArray) 63 rfl (by kernel_rfl) (run_op_load _ _ rfl V 0 rfl (scs c) ((show Has (scs c) 0 (scs c) from Has.refl _).range (rV304)) ((sz_sta KC.out))) ?_))
            | ((with_reducible refine at_slot 64 ?_); (refine arm_want (.agg (scs c).toArray) 64 rfl (by kernel_rfl) (run_op_load _ _ rfl C 0 rfl (scs c) ((show Has (scs c) 0 (scs c) from Has.refl _).range (rC304)) ((sz_sta KC.out))) ?_)))
          refine (WC.out _ (HKW.out _ bel304)).mono ?_
          rintro e y305 ⟨rfl, hB⟩
          have rV305 : Row y305 V 35 (scs c) := rV304.old hB
          have rN305 : Row y305 N 35 (scs q) := rN304.old hB
          have rC305 : Row y305 C 35 (scs c) := rC304.old hB
          have bel305 : Below w.heap.size w y305 := below_step bel304 bel304.size hB
          clear hB rV304 rN304 rC304 bel304
          go_wp2_with fail
          go_ret
          exact ⟨rfl, bel305⟩
      · rw [decide_eq_false hw] at W0; rw [hfold, step_stay (q := (q, n)) hw] at CF
        clear hw hfold hn
        go_enter Tryd.func5, Tryd.ntmps5
        go_wp2_with (first
          | ((with_reducible refine at_slot 2 ?_); (refine arm_box (o := ⟨some 2, _, _, _, _, _⟩) rfl _ _ rfl (scs t) rfl ?_); intro A v1 Ae hv1 nv1))
        have q0 := Ae.out
        have q1 := nv1.size
        have lA : w.heap.size ≤ A := by omega
        have rA2 : Row v1 A 35 (scs t) := hv1
        have bel2 : Below w.heap.size w v1 := (below_step (Below.refl _ _) (by omega) nv1.below)
        clear q0 q1 Ae hv1 nv1
        refine (CA.out _ (HKW.out _ bel2)).mono ?_
        rintro e y3 ⟨rfl, hB⟩
        have rA3 : Row y3 A 35 (scs t) := rA2.old hB
        have bel3 : Below w.heap.size w y3 := below_step bel2 bel2.size hB
        clear hB rA2 bel2
        go_wp2_with (first
          | ((with_reducible refine at_slot 12 ?_); (refine arm_load (o := ⟨some 12, _, _, _, _, _⟩) rfl _ _ rfl A 0 rfl (scs t) ((show Has (scs t) 0 (scs t) from Has.refl _).range (rA3)) (sz_sta KT.out) ?_))
          | ((with_reducible refine at_slot 13 ?_); (refine arm_lit (K := kS) (o := ⟨some 13, _, _, _, _, _⟩) rfl fS [t] (allOk_cons KT.out allOk_nil) (by simp) _ _ rfl rfl (by simp only [List.map_toArray, List.map_cons, List.map_nil]; rfl) ?_); intro Q vq Qe hvq nvq)
          | ((with_reducible refine at_slot 15 ?_); (refine arm_appendB (K := kS) (o := ⟨some 15, _, _, _, _, _⟩) rfl fS _ _ rfl (w.heap.size) (some ⟨Q, 0, none⟩) _ 1 ([t]) rfl rfl (Sl.Own.row (base := w.heap.size) fS (allOk_cons KT.out allOk_nil) (by have := Qe.out; have := bel3.size; omega) (by simp [maxLen]) hvq) (_) _ _ (l) rfl HLN.out ((HS.out.below bel3).below nvq.below) (by have := HBY.out; simp only [List.length_cons, List.length_nil, maxLen]; omega) (by have := HBY.out; simp only [List.length_cons, List.length_nil]; omega) (by have := bel3.size; have := nvq.size; omega) ?_); intro p2 c2 vz hO hBZ hkp hat; rw [HLL.out]))
        have qA := rA3.lt
        have nAQ : A ≠ Q := by have := Qe.out; omega
        have belz : Below w.heap.size w vz := (below_step bel3 bel3.size nvq.below).trans hBZ
        have rAz : Row vz A 35 (scs t) := (hkp.out A (by have := nvq.size; omega) (fun e => nAQ (by have h1 : Q = A := Option.some.inj e; omega))).trans (rA3.old nvq.below)
        clear rA3 bel3 qA nAQ Qe hvq nvq hBZ hkp hat
        refine (CRt.out _ p2 c2 (hO.at fS)).mono ?_
        rintro e y4 ⟨rfl, hB⟩
        have rA4 : Row y4 A 35 (scs t) := rAz.old hB
        have bel4 : Below w.heap.size w y4 := below_step belz belz.size hB
        clear hB rAz belz
        clear hO
        go_wp2_with (first
          | ((with_reducible refine at_slot 19 ?_); (refine arm_load (o := ⟨some 19, _, _, _, _, _⟩) rfl _ _ rfl A 0 rfl (scs t) ((show Has (scs t) 0 (scs t) from Has.refl _).range (rA4)) (sz_sta KT.out) ?_)))
        refine (CF.out _ (HS.out.below bel4) (HKW.out _ bel4)).mono ?_
        rintro e y5 ⟨rfl, hB⟩
        have rA5 : Row y5 A 35 (scs t) := rA4.old hB
        have bel5 : Below w.heap.size w y5 := below_step bel4 bel4.size hB
        clear hB rA4 bel4
        go_wp2_with (first
          | ((with_reducible refine at_slot 5 ?_); (refine arm_alloc (o := ⟨some 5, _, _, _, _, _⟩) rfl _ rfl (scs zs) z_sta ?_); intro V v6 Ve hv6 nv6)
          | ((with_reducible refine arm_store (o := ⟨none, _, _, _, _, _⟩) rfl _ _ _ rfl V 0 rfl (scs q) rfl _ _ (hv6) (fitS KQ.out) (scs_one _) (sz_sta KQ.out) ?_); intro v7 hv7 ov7 sv7))
        have q0 := Ve.out
        have q1 := nv6.size
        have q2 := sv7.out
        have q3 := rA5.lt
        have q4 := bel5.size
        have lV : w.heap.size ≤ V := by omega
        have nAV : A ≠ V := by omega
        have nVA : V ≠ A := by omega
        have rA8 : Row v7 A 35 (scs t) := ((rA5.old nv6.below).only ov7 nAV)
        have rV8 : Row v7 V 35 (scs q) := (hv7.congr (allS KQ.out))
        have bel8 : Below w.heap.size w v7 := (below_only (below_step bel5 (by omega) nv6.below) ov7 lV (by omega))
        clear q0 q1 q2 q3 q4 rA5 bel5 Ve hv6 nv6 hv7 ov7 sv7
        have lA := rA8.lt; have hAt := HS.out.below bel8
        go_cut [7, 8] (fun nn ee wx => ∃ N : Nat, nn = .pointer (some ⟨N, 0, none⟩) ∧ ee = .int .i64 (n : Int) ∧ Row wx N 35 (scs q) ∧ Below v7.heap.size v7 wx ∧ v7.heap.size ≤ N)
        case first =>
          obtain ⟨Z, hZ⟩ : ∃ Z, Z = v7.heap.size := ⟨_, rfl⟩
          refine wp_region_held (S := fun w' => Below Z v7.drew w') (by kernel_rfl) ?_
          change wpAnyH _ _ _ _ _ _ _ _ v7.drew
          have rAz2 : Row v7.drew A 35 (scs t) := rA8
          have atz : At kS v7.drew (some ⟨g, o, none⟩) l := hAt.below (Below.refl _ _).drew
          have kz : v7.drew.rangeAt 0 0 (u32s ks) := HKW.out _ (bel8.trans (Below.refl _ _).drew)
          have belz : Below v7.heap.size v7 v7.drew := (Below.refl _ _).drew
          have hS : Below Z v7.drew v7.drew := Below.refl _ _
          have ez : v7.drew.heap.size = v7.heap.size := rfl
          have ZL : Hid (Z ≤ v7.drew.heap.size) := Lib.hid (by omega)
          have ZE : Hid (v7.drew.heap.size = Z) := Lib.hid (by omega)
          have ZW := Lib.hid hZ
          generalize v7.drew = wz at rAz2 atz kz belz hS ZL ZE ⊢
          clear hZ ez
          refine h_take 0 (.agg (scs t).toArray) rfl 35 rfl (by kernel_rfl) (by kernel_rfl) (by kernel_rfl) (by kernel_rfl) (fun _ _ _ h => h) (fun w' hC => run_op_load _ _ rfl A 0 rfl (scs t) ((Has.refl _).range (rAz2.below hC (ZW.out ▸ lA))) (sz_sta KT.out)) hS ?_
          simp only [Act.put, List.setIfInBounds_toArray, List.set_cons_zero, List.set_cons_succ]
          refine h_take 1 (.slice (some ⟨g, o, none⟩) (m + 1) pc) rfl 36 rfl (by kernel_rfl) (by kernel_rfl) (by kernel_rfl) (by kernel_rfl) (fun _ _ _ h => h) (fun w' _ => by kernel_rfl) hS ?_
          simp only [Act.put, List.setIfInBounds_toArray, List.set_cons_zero, List.set_cons_succ]
          refine h_take 2 (.slice (some ⟨g, o, none⟩) (m + 1) pc) rfl 37 rfl (by kernel_rfl) (by kernel_rfl) (by kernel_rfl) (by kernel_rfl) (fun _ _ _ h => h) (fun w' _ => by kernel_rfl) hS ?_
          simp only [Act.put, List.setIfInBounds_toArray, List.set_cons_zero, List.set_cons_succ]
          refine h_take 3 (.int .i64 ((m + 1 : Nat) : Int)) rfl 38 rfl (by kernel_rfl) (by kernel_rfl) (by kernel_rfl) (by kernel_rfl) (fun _ _ _ h => h) (fun w' _ => run_op_lenK _ _ _ rfl fS.und _ _ _ rfl w') hS ?_
          simp only [Act.put, List.setIfInBounds_toArray, List.set_cons_zero, List.set_cons_succ]
          refine h_take 4 (.int .i64 (m : Int)) rfl 39 rfl (by kernel_rfl) (by kernel_rfl) (by kernel_rfl) (by kernel_rfl) (fun _ _ _ h => h) (fun w' _ => Lk.run_op_sub64 _ _ _ _ rfl _ _ _ rfl rfl HM.out w') hS ?_
          simp only [Act.put, List.setIfInBounds_toArray, List.set_cons_zero, List.set_cons_succ]
          refine h_take 5 (.slice (some ⟨g, o, none⟩) m pc) rfl 40 rfl (by kernel_rfl) (by kernel_rfl) (by kernel_rfl) (by kernel_rfl) (fun _ _ _ h => h) (fun w' _ => run_op_head fS _ _ rfl _ _ _ rfl .i64 _ rfl m rfl HMP.out w') hS ?_
          simp only [Act.put, List.setIfInBounds_toArray, List.set_cons_zero, List.set_cons_succ]
          refine h_two (i := 6) (j := 10) (by kernel_rfl) ?_ ?_
          · skip
            refine (o_call rfl 41 rfl (by kernel_rfl) (run_op_call 14 _ _ rfl #[.agg (scs t).toArray, .slice (some ⟨g, o, none⟩) m pc] (by simp only [List.map_toArray, List.map_cons, List.map_nil]; rfl) Tryd.func14 (by kernel_rfl) (by kernel_rfl) _) (CF2.out _ (atz.below (by rw [ZE.out]; exact hS)) (range_block kz (hS.block _ (by have := ZW.out; have := bel8.size; have := HK1.out; omega)))) ?_)
            rintro e y1 ⟨rfl, hB⟩
            have hS1 : Below Z wz y1 := below_step hS (Nat.le_trans ZL.out hS.size) hB
            refine ⟨_, rfl, hS1, ?_⟩
            clear hB
            simp only [Act.put, List.setIfInBounds_toArray, List.set_cons_zero, List.set_cons_succ]
            refine h_take 7 (.tuple #[.agg (scs q).toArray, .int .i64 (n : Int)]) rfl 34 rfl (by kernel_rfl) (by kernel_rfl) (by kernel_rfl) (by kernel_rfl) (fun _ _ _ h => h) (fun w' _ => by kernel_rfl) hS1 ?_
            simp only [Act.put, List.setIfInBounds_toArray, List.set_cons_zero, List.set_cons_succ]
            refine h_take 8 (.agg (scs q).toArray) rfl 42 rfl (by kernel_rfl) (by kernel_rfl) (by kernel_rfl) (by kernel_rfl) (fun _ _ _ h => h) (fun w' _ => by kernel_rfl) hS1 ?_
            simp only [Act.put, List.setIfInBounds_toArray, List.set_cons_zero, List.set_cons_succ]
            refine h_take 9 (.int .i64 (n : Int)) rfl 43 rfl (by kernel_rfl) (by kernel_rfl) (by kernel_rfl) (by kernel_rfl) (fun _ _ _ h => h) (fun w' _ => by kernel_rfl) hS1 ?_
            simp only [Act.put, List.setIfInBounds_toArray, List.set_cons_zero, List.set_cons_succ]
            refine h_one (i := 10) (by kernel_rfl) (o_value _ rfl 7 rfl (by kernel_rfl) (run_op_alloc _ rfl (scs zs) z_sta) ?_)
            have hN := new_alloc y1 (.cells (scs zs).toArray 35)
            have rN2 : Row (y1.alloc (.cells (scs zs).toArray 35)) y1.heap.size 35 (scs zs) := heap_alloc_new _ _
            have lN : Z ≤ y1.heap.size := Nat.le_trans ZL.out hS1.size
            generalize y1.alloc (.cells (scs zs).toArray 35) = y2 at hN rN2 ⊢
            have hS2 : Below Z wz y2 := below_step hS1 (Nat.le_trans ZL.out hS1.size) hN.below
            clear hN
            refine ⟨hS2, ?_⟩
            generalize y1.heap.size = N at rN2 lN ⊢
            simp only [Act.put, List.setIfInBounds_toArray, List.set_cons_zero, List.set_cons_succ]
            refine h_one (i := 11) (by kernel_rfl) (o_skip rfl rfl (by kernel_rfl) (run_op_store _ _ _ rfl N 0 rfl (scs q) rfl _ _ rN2 (fitS KQ.out) (scs_one _) (sz_sta KQ.out)) ?_)
            have rNf := row_setRow rN2 (lay (scs zs) 0 (scs q))
            have oNf := Only.setRow N y2 (lay (scs zs) 0 (scs q)).toArray
            generalize y2.setRow N (lay (scs zs) 0 (scs q)).toArray = yf at rNf oNf ⊢
            have hSf : Below Z wz yf := below_only hS2 oNf lN (Nat.le_trans ZL.out hS2.size)
            refine ⟨hSf, ?_⟩
            refine h_take 12 (.int .i64 (n : Int)) rfl 8 rfl (by kernel_rfl) (by kernel_rfl) (by kernel_rfl) (by kernel_rfl) (fun _ _ _ h => h) (fun w' _ => by kernel_rfl) hSf ?_
            simp only [Act.put, List.setIfInBounds_toArray, List.set_cons_zero, List.set_cons_succ]
            refine wpAnyH_done (by kernel_rfl) ?_ _
            go_wp2_with fail
            go_meet
            exact ⟨N, rfl, rfl, rNf.congr (allS KQ.out), belz.trans (ZW.out ▸ hSf), ZW.out ▸ lN⟩
          · skip
            refine (o_value _ rfl 7 rfl (by kernel_rfl) (run_op_alloc _ rfl (scs zs) z_sta) ?_)
            have hN := new_alloc wz (.cells (scs zs).toArray 35)
            have rN1 : Row (wz.alloc (.cells (scs zs).toArray 35)) wz.heap.size 35 (scs zs) := heap_alloc_new _ _
            have lN : Z ≤ wz.heap.size := Nat.le_trans ZL.out hS.size
            generalize wz.alloc (.cells (scs zs).toArray 35) = y1 at hN rN1 ⊢
            have hS1 : Below Z wz y1 := below_step hS (Nat.le_trans ZL.out hS.size) hN.below
            clear hN
            refine ⟨hS1, ?_⟩
            generalize wz.heap.size = N at rN1 lN ⊢
            simp only [Act.put, List.setIfInBounds_toArray, List.set_cons_zero, List.set_cons_succ]
            refine h_one (i := 6) (by kernel_rfl) (o_call rfl 41 rfl (by kernel_rfl) (run_op_call 14 _ _ rfl #[.agg (scs t).toArray, .slice (some ⟨g, o, none⟩) m pc] (by simp only [List.map_toArray, List.map_cons, List.map_nil]; rfl) Tryd.func14 (by kernel_rfl) (by kernel_rfl) _) (CF2.out _ (atz.below (by rw [ZE.out]; exact hS1)) (range_block kz (hS1.block _ (by have := ZW.out; have := bel8.size; have := HK1.out; omega)))) ?_)
            rintro e y2 ⟨rfl, hB⟩
            have hS2 : Below Z wz y2 := below_step hS1 (Nat.le_trans ZL.out hS1.size) hB
            refine ⟨_, rfl, hS2, ?_⟩
            have rN2 := rN1.old hB
            clear hB
            simp only [Act.put, List.setIfInBounds_toArray, List.set_cons_zero, List.set_cons_succ]
            refine h_take 7 (.tuple #[.agg (scs q).toArray, .int .i64 (n : Int)]) rfl 34 rfl (by kernel_rfl) (by kernel_rfl) (by kernel_rfl) (by kernel_rfl) (fun _ _ _ h => h) (fun w' _ => by kernel_rfl) hS2 ?_
            simp only [Act.put, List.setIfInBounds_toArray, List.set_cons_zero, List.set_cons_succ]
            refine h_take 8 (.agg (scs q).toArray) rfl 42 rfl (by kernel_rfl) (by kernel_rfl) (by kernel_rfl) (by kernel_rfl) (fun _ _ _ h => h) (fun w' _ => by kernel_rfl) hS2 ?_
            simp only [Act.put, List.setIfInBounds_toArray, List.set_cons_zero, List.set_cons_succ]
            refine h_take 9 (.int .i64 (n : Int)) rfl 43 rfl (by kernel_rfl) (by kernel_rfl) (by kernel_rfl) (by kernel_rfl) (fun _ _ _ h => h) (fun w' _ => by kernel_rfl) hS2 ?_
            simp only [Act.put, List.setIfInBounds_toArray, List.set_cons_zero, List.set_cons_succ]
            refine h_one (i := 11) (by kernel_rfl) (o_skip rfl rfl (by kernel_rfl) (run_op_store _ _ _ rfl N 0 rfl (scs q) rfl _ _ rN2 (fitS KQ.out) (scs_one _) (sz_sta KQ.out)) ?_)
            have rNf := row_setRow rN2 (lay (scs zs) 0 (scs q))
            have oNf := Only.setRow N y2 (lay (scs zs) 0 (scs q)).toArray
            generalize y2.setRow N (lay (scs zs) 0 (scs q)).toArray = yf at rNf oNf ⊢
            have hSf : Below Z wz yf := below_only hS2 oNf lN (Nat.le_trans ZL.out hS2.size)
            refine ⟨hSf, ?_⟩
            refine h_take 12 (.int .i64 (n : Int)) rfl 8 rfl (by kernel_rfl) (by kernel_rfl) (by kernel_rfl) (by kernel_rfl) (fun _ _ _ h => h) (fun w' _ => by kernel_rfl) hSf ?_
            simp only [Act.put, List.setIfInBounds_toArray, List.set_cons_zero, List.set_cons_succ]
            refine wpAnyH_done (by kernel_rfl) ?_ _
            go_wp2_with fail
            go_meet
            exact ⟨N, rfl, rfl, rNf.congr (allS KQ.out), belz.trans (ZW.out ▸ hSf), ZW.out ▸ lN⟩
        case rest =>
          obtain ⟨N, rfl, rfl, rN, hbx, lN⟩ := hcut
          have rA9 := rA8.old hbx; have rV9 := rV8.old hbx
          have lV := rV8.lt
          have nAN : A ≠ N := by omega
          have nVN : V ≠ N := by omega
          have nNA := Ne.symm nAN; have nNV := Ne.symm nVN
          have lN2 : w.heap.size ≤ N := Nat.le_trans bel8.size lN
          have bel9 : Below w.heap.size w wc := below_step bel8 bel8.size hbx
          have RT9 := Lib.hid (range_block RTc.out (bel9.block g HGL.out))
          clear rA8 rV8 bel8 lA lV hAt hbx CF CF2 rA9
          go_wp2_with (first
            | ((with_reducible refine at_slot 48 ?_); (refine arm_want (.pointer (some ⟨g, o + m * 363, none⟩)) 48 rfl (by kernel_rfl) (run_op_index fS _ _ rfl g o _ _ rfl .i64 _ rfl m (by first | rfl | omega | (rw [IntKind.wrap_i64]; omega)) (by omega) _) ?_))
            | ((with_reducible refine at_slot 49 ?_); (refine arm_load (o := ⟨some 49, _, _, _, _, _⟩) rfl _ _ rfl g (o + m * 363) rfl (scs c) (RT9.out) (sz_sta KC.out) ?_))
            | ((with_reducible refine at_slot 9 ?_); (refine arm_alloc (o := ⟨some 9, _, _, _, _, _⟩) rfl _ rfl (scs zs) z_sta ?_); intro C v301 Ce hv301 nv301)
            | ((with_reducible refine arm_store (o := ⟨none, _, _, _, _, _⟩) rfl _ _ _ rfl C 0 rfl (scs c) rfl _ _ (hv301) (fitS KC.out) (scs_one _) (sz_sta KC.out) ?_); intro v302 hv302 ov302 sv302)
            | ((with_reducible refine at_slot 50 ?_); (refine arm_load (o := ⟨some 50, _, _, _, _, _⟩) rfl _ _ rfl N 0 rfl (scs q) ((show Has (scs q) 0 (scs q) from Has.refl _).range (((rN.old nv301.below).only ov302 (by have := rN.lt; have := Ce.out; have := nv301.size; have := sv302.out; omega)))) (sz_sta KQ.out) ?_))
            | ((with_reducible refine at_slot 51 ?_); (refine arm_load (o := ⟨some 51, _, _, _, _, _⟩) rfl _ _ rfl C 0 rfl (scs c) ((show Has (scs c) 0 (scs c) from Has.refl _).range ((hv302.congr (allS KC.out)))) (sz_sta KC.out) ?_)))
          have q0 := Ce.out
          have q1 := nv301.size
          have q2 := sv302.out
          have q3 := rV9.lt
          have q4 := rN.lt
          have q5 := bel9.size
          have lC : w.heap.size ≤ C := by omega
          have nVC : V ≠ C := by omega
          have nCV : C ≠ V := by omega
          have nNC : N ≠ C := by omega
          have nCN : C ≠ N := by omega
          have rV303 : Row v302 V 35 (scs q) := ((rV9.old nv301.below).only ov302 nVC)
          have rN303 : Row v302 N 35 (scs q) := ((rN.old nv301.below).only ov302 nNC)
          have rC303 : Row v302 C 35 (scs c) := (hv302.congr (allS KC.out))
          have bel303 : Below w.heap.size w v302 := (below_only (below_step bel9 (by omega) nv301.below) ov302 lC (by omega))
          clear q0 q1 q2 q3 q4 q5 rV9 rN bel9 Ce hv301 nv301 hv302 ov302 sv302
          refine (W0.out _ (HKW.out _ bel303)).mono ?_
          rintro e y304 ⟨rfl, hB⟩
          have rV304 : Row y304 V 35 (scs q) := rV303.old hB
          have rN304 : Row y304 N 35 (scs q) := rN303.old hB
          have rC304 : Row y304 C 35 (scs c) := rC303.old hB
          have bel304 : Below w.heap.size w y304 := below_step bel303 bel303.size hB
          clear hB rV303 rN303 rC303 bel303
          go_wp2_with (first
            | ((with_reducible refine at_slot 68 ?_); (refine arm_load (o := ⟨some 68, _, _, _, _, _⟩) rfl _ _ rfl V 0 rfl (scs q) ((show Has (scs q) 0 (scs q) from Has.refl _).range (rV304)) (sz_sta KQ.out) ?_))
            | ((with_reducible refine at_slot 69 ?_); (refine arm_load (o := ⟨some 69, _, _, _, _, _⟩) rfl _ _ rfl N 0 rfl (scs q) ((show Has (scs q) 0 (scs q) from Has.refl _).range (rN304)) (sz_sta KQ.out) ?_))
            | ((with_reducible refine at_slot 70 ?_); (refine arm_want (.bool true) 70 rfl (by kernel_rfl) (run_op_eqlS KQ.out KQ.out _ _ _ rfl rfl rfl true (by simp) _) ?_))
            | ((with_reducible refine at_slot 77 ?_); (refine arm_want (.agg (scs q).toArray) 77 rfl (by kernel_rfl) (run_op_load _ _ rfl V 0 rfl (scs q) ((show Has (scs q) 0 (scs q) from Has.refl _).range (rV304)) ((sz_sta KQ.out))) ?_))
            | ((with_reducible refine at_slot 78 ?_); (refine arm_want (.agg (scs c).toArray) 78 rfl (by kernel_rfl) (run_op_load _ _ rfl C 0 rfl (scs c) ((show Has (scs c) 0 (scs c) from Has.refl _).range (rC304)) ((sz_sta KC.out))) ?_)))
          refine (W0.out _ (HKW.out _ bel304)).mono ?_
          rintro e y305 ⟨rfl, hB⟩
          have rV305 : Row y305 V 35 (scs q) := rV304.old hB
          have rN305 : Row y305 N 35 (scs q) := rN304.old hB
          have rC305 : Row y305 C 35 (scs c) := rC304.old hB
          have bel305 : Below w.heap.size w y305 := below_step bel304 bel304.size hB
          clear hB rV304 rN304 rC304 bel304
          go_wp2_with fail
          go_ret
          exact ⟨rfl, bel305⟩
  · rw [decide_eq_false hr] at CRt
    clear hr kt hs0 hln
    go_enter Tryd.func5, Tryd.ntmps5
    go_wp2_with (first
      | ((with_reducible refine at_slot 2 ?_); (refine arm_box (o := ⟨some 2, _, _, _, _, _⟩) rfl _ _ rfl (scs t) rfl ?_); intro A v1 Ae hv1 nv1))
    have q0 := Ae.out
    have q1 := nv1.size
    have lA : w.heap.size ≤ A := by omega
    have rA2 : Row v1 A 35 (scs t) := hv1
    have bel2 : Below w.heap.size w v1 := (below_step (Below.refl _ _) (by omega) nv1.below)
    clear q0 q1 Ae hv1 nv1
    refine (CA.out _ (HKW.out _ bel2)).mono ?_
    rintro e y3 ⟨rfl, hB⟩
    have rA3 : Row y3 A 35 (scs t) := rA2.old hB
    have bel3 : Below w.heap.size w y3 := below_step bel2 bel2.size hB
    clear hB rA2 bel2
    go_wp2_with (first
      | ((with_reducible refine at_slot 12 ?_); (refine arm_load (o := ⟨some 12, _, _, _, _, _⟩) rfl _ _ rfl A 0 rfl (scs t) ((show Has (scs t) 0 (scs t) from Has.refl _).range (rA3)) (sz_sta KT.out) ?_))
      | ((with_reducible refine at_slot 13 ?_); (refine arm_lit (K := kS) (o := ⟨some 13, _, _, _, _, _⟩) rfl fS [t] (allOk_cons KT.out allOk_nil) (by simp) _ _ rfl rfl (by simp only [List.map_toArray, List.map_cons, List.map_nil]; rfl) ?_); intro Q vq Qe hvq nvq)
      | ((with_reducible refine at_slot 15 ?_); (refine arm_appendB (K := kS) (o := ⟨some 15, _, _, _, _, _⟩) rfl fS _ _ rfl (w.heap.size) (some ⟨Q, 0, none⟩) _ 1 ([t]) rfl rfl (Sl.Own.row (base := w.heap.size) fS (allOk_cons KT.out allOk_nil) (by have := Qe.out; have := bel3.size; omega) (by simp [maxLen]) hvq) (_) _ _ (l) rfl HLN.out ((HS.out.below bel3).below nvq.below) (by have := HBY.out; simp only [List.length_cons, List.length_nil, maxLen]; omega) (by have := HBY.out; simp only [List.length_cons, List.length_nil]; omega) (by have := bel3.size; have := nvq.size; omega) ?_); intro p2 c2 vz hO hBZ hkp hat; rw [HLL.out]))
    have qA := rA3.lt
    have nAQ : A ≠ Q := by have := Qe.out; omega
    have belz : Below w.heap.size w vz := (below_step bel3 bel3.size nvq.below).trans hBZ
    have rAz : Row vz A 35 (scs t) := (hkp.out A (by have := nvq.size; omega) (fun e => nAQ (by have h1 : Q = A := Option.some.inj e; omega))).trans (rA3.old nvq.below)
    clear rA3 bel3 qA nAQ Qe hvq nvq hBZ hkp hat
    refine (CRt.out _ p2 c2 (hO.at fS)).mono ?_
    rintro e y4 ⟨rfl, hB⟩
    have rA4 : Row y4 A 35 (scs t) := rAz.old hB
    have bel4 : Below w.heap.size w y4 := below_step belz belz.size hB
    clear hB rAz belz
    clear hO
    go_wp2_with fail
    go_ret
    exact ⟨rfl, bel4⟩
end Go.Proofs.YtffpifljeeikfaaDoor.Cz
