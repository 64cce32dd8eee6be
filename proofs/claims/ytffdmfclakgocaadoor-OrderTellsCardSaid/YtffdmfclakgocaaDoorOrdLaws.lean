/-
  The walk of layer 12's statement OrderTells, out of the contracts: it returns true, and changes nothing that was there. Over this seat's translation.
-/
import Derived.Test.YtffdmfclakgocaaDoorOrdAwake
import Derived.Test.YtffdmfclakgocaaDoorOrdOwn
namespace Go.Proofs.YtffdmfclakgocaaDoor.Od
open Go.ChangeShapes Go.WideShapes Go.ChangeAt Go.RowKit Go.Proofs.YtffdmfclakgocaaDoor.Mem Go.Proofs.YtffdmfclakgocaaDoor.Bt Go.Proofs.YtffdmfclakgocaaDoor.Sl
open Go.Proofs.YtffdmfclakgocaaDoor.Ep (H32 zh zh_ok num32 Has h_len one_app one_num szH zH fitH allH)
open Go.Proofs.YtffdmfclakgocaaDoor.Sha (ks)
open Go.Proofs.YtffdmfclakgocaaDoor.Sa (Sta scs digS digS_ok sz_sta sz_rsta h_drw h_lngth)
set_option linter.unusedVariables false
set_option linter.unusedSimpArgs false

structure OtRel (w : World) (l : List Ky) (i mv : Value) (wr : World) : Prop where
  ex : ∃ (k : Nat) (p : Option Addr) (cap : Nat), k ≤ l.length ∧ i = .int .i64 (k : Int) ∧ mv = .slice p k cap ∧ Sl.Own kRK wr w.heap.size p cap (l.take k)
  bel : Below w.heap.size w wr
theorem otake_snoc {l : List Ky} {k : Nat} {t : Ky} (h : l[k]? = some t) : l.take k ++ [t] = l.take (k + 1) := by rw [List.take_add_one, h]; rfl
set_option maxHeartbeats 4000000 in
set_option maxRecDepth 100000 in
theorem orderTells_any (s : Sta) (x y : Ky) (l : List Ky) (P : Option Addr) (pc : Nat) (w : World) (ok : s.Ok) (kx : x.Ok) (ky : y.Ok) (hs : At kK w P l) (hk : w.rangeAt 1 0 (u32s ks)) (hk2 : w.rangeAt 2 0 (u32s ks)) :
    Calls Tryd.prog 3 #[.agg (scs s).toArray, .agg (kcs x).toArray, .agg (kcs y).toArray, .slice P l.length pc] w fun e w' => e = .returned (.bool true) ∧ Below w.heap.size w w' := by
  have hk1 : 1 < w.heap.size := range_lt hk (by simp [u32s, ks])
  have HKW : Hid (∀ w', Below w.heap.size w w' → w'.rangeAt 1 0 (u32s ks)) := Lib.hid fun w' hb => range_block hk (hb.block _ hk1)
  have hk3 : 2 < w.heap.size := range_lt hk2 (by simp [u32s, ks])
  have HKR : Hid (∀ w', Below w.heap.size w w' → w'.rangeAt 2 0 (u32s ks)) := Lib.hid fun w' hb => range_block hk2 (hb.block _ hk3)
  have OK := Lib.hid ok; have KX := Lib.hid kx; have KY := Lib.hid ky; have HS := Lib.hid hs
  have CA := Lib.hid (fun w0 h => awake_any w0 h)
  by_cases hbig : 40 < l.length
  · have hbd : decide ((40 : Int) < (l.length : Int)) = true := decide_eq_true (by omega)
    have hbd2 : decide (40 < l.length) = true := decide_eq_true hbig
    clear hs hk hk1 hk2 hk3 HS
    go_enter Tryd.func3, Tryd.ntmps3
    go_wp2_with (first
      | ((with_reducible refine at_slot 4 ?_); (refine arm_box (o := ⟨some 4, _, _, _, _, _⟩) rfl _ _ rfl (scs s) rfl ?_); intro A v1 Ae hv1 nv1)
      | ((with_reducible refine at_slot 5 ?_); (refine arm_box (o := ⟨some 5, _, _, _, _, _⟩) rfl _ _ rfl (kcs x) rfl ?_); intro B v2 Be hv2 nv2)
      | ((with_reducible refine at_slot 6 ?_); (refine arm_box (o := ⟨some 6, _, _, _, _, _⟩) rfl _ _ rfl (kcs y) rfl ?_); intro C v3 Ce hv3 nv3))
    have q0 := Ae.out
    have q1 := nv1.size
    have q2 := Be.out
    have q3 := nv2.size
    have q4 := Ce.out
    have q5 := nv3.size
    have lA : w.heap.size ≤ A := by omega
    have lB : w.heap.size ≤ B := by omega
    have nAB : A ≠ B := by omega
    have nBA : B ≠ A := by omega
    have lC : w.heap.size ≤ C := by omega
    have nAC : A ≠ C := by omega
    have nCA : C ≠ A := by omega
    have nBC : B ≠ C := by omega
    have nCB : C ≠ B := by omega
    have rA4 : Row v3 A 35 (scs s) := ((hv1.old nv2.below).old nv3.below)
    have rB4 : Row v3 B 37 (kcs x) := (hv2.old nv3.below)
    have rC4 : Row v3 C 37 (kcs y) := hv3
    have bel4 : Below w.heap.size w v3 := (below_step (below_step (below_step (Below.refl _ _) (by omega) nv1.below) (by omega) nv2.below) (by omega) nv3.below)
    clear q0 q1 q2 q3 q4 q5 Ae hv1 nv1 Be hv2 nv2 Ce hv3 nv3
    refine (CA.out _ (HKW.out _ bel4)).mono ?_
    rintro e y5 ⟨rfl, hB⟩
    have rA5 : Row y5 A 35 (scs s) := rA4.old hB
    have rB5 : Row y5 B 37 (kcs x) := rB4.old hB
    have rC5 : Row y5 C 37 (kcs y) := rC4.old hB
    have bel5 : Below w.heap.size w y5 := below_step bel4 bel4.size hB
    clear hB rA4 rB4 rC4 bel4
    go_wp2_with fail
    go_ret
    exact ⟨rfl, bel5⟩
  · have hbd : decide ((40 : Int) < (l.length : Int)) = false := decide_eq_false (by omega)
    have hbd2 : decide (40 < l.length) = false := decide_eq_false hbig
    have HL : Hid (l.length ≤ 1000) := Lib.hid (by omega)
    have CO := Lib.hid (fun w0 => Sa.own12_any s w0 ok)
    have CF := Lib.hid (fun w0 h => of_any s w0 ok h)
    have CF2 := Lib.hid (fun w0 h => rof_any s w0 ok h)
    have KK := Lib.hid (keyN_ok ok)
    generalize keyN s = kg at CF CF2 KK
    have CC := Lib.hid (fun w0 => compare_any x y w0 kx ky)
    have CC2 := Lib.hid (fun w0 => rcompare_any x y w0 kx ky)
    generalize kcmp x y = zc at CC CC2
    have CH := Lib.hid (fun w0 => hashes_any x.hash y.hash w0 kx.hash ky.hash)
    have CH2 := Lib.hid (fun w0 => rhashes_any x.hash y.hash w0 kx.hash ky.hash)
    generalize cmpN (val x.hash) (val y.hash) = zd at CH CH2
    have CG := Lib.hid (fun w0 h => greatest_any l P pc w0 h HL.out)
    have CG2 := Lib.hid (fun Q qc w0 h => rgreatest_any l Q qc w0 h HL.out)
    generalize topF l = zt at CG CG2
    clear hs hk hk1 hk2 hk3 ok kx ky
    go_enter Tryd.func3, Tryd.ntmps3
    go_wp2_with (first
      | ((with_reducible refine at_slot 4 ?_); (refine arm_box (o := ⟨some 4, _, _, _, _, _⟩) rfl _ _ rfl (scs s) rfl ?_); intro A v1 Ae hv1 nv1)
      | ((with_reducible refine at_slot 5 ?_); (refine arm_box (o := ⟨some 5, _, _, _, _, _⟩) rfl _ _ rfl (kcs x) rfl ?_); intro B v2 Be hv2 nv2)
      | ((with_reducible refine at_slot 6 ?_); (refine arm_box (o := ⟨some 6, _, _, _, _, _⟩) rfl _ _ rfl (kcs y) rfl ?_); intro C v3 Ce hv3 nv3))
    have q0 := Ae.out
    have q1 := nv1.size
    have q2 := Be.out
    have q3 := nv2.size
    have q4 := Ce.out
    have q5 := nv3.size
    have lA : w.heap.size ≤ A := by omega
    have lB : w.heap.size ≤ B := by omega
    have nAB : A ≠ B := by omega
    have nBA : B ≠ A := by omega
    have lC : w.heap.size ≤ C := by omega
    have nAC : A ≠ C := by omega
    have nCA : C ≠ A := by omega
    have nBC : B ≠ C := by omega
    have nCB : C ≠ B := by omega
    have rA4 : Row v3 A 35 (scs s) := ((hv1.old nv2.below).old nv3.below)
    have rB4 : Row v3 B 37 (kcs x) := (hv2.old nv3.below)
    have rC4 : Row v3 C 37 (kcs y) := hv3
    have bel4 : Below w.heap.size w v3 := (below_step (below_step (below_step (Below.refl _ _) (by omega) nv1.below) (by omega) nv2.below) (by omega) nv3.below)
    clear q0 q1 q2 q3 q4 q5 Ae hv1 nv1 Be hv2 nv2 Ce hv3 nv3
    refine (CA.out _ (HKW.out _ bel4)).mono ?_
    rintro e y5 ⟨rfl, hB⟩
    have rA5 : Row y5 A 35 (scs s) := rA4.old hB
    have rB5 : Row y5 B 37 (kcs x) := rB4.old hB
    have rC5 : Row y5 C 37 (kcs y) := rC4.old hB
    have bel5 : Below w.heap.size w y5 := below_step bel4 bel4.size hB
    clear hB rA4 rB4 rC4 bel4
    go_wp2_with (first
      | ((with_reducible refine at_slot 17 ?_); (refine arm_lit (K := kRK) (o := ⟨some 17, _, _, _, _, _⟩) rfl fRK [] allOk_nil (by simp) _ _ rfl rfl (by simp only [List.map_toArray, List.map_nil]; rfl) ?_); intro M v1 Me hM nM))
    have hM0 : Sl.Own kRK v1 y5.heap.size (some ⟨M, 0, none⟩) 0 [] := Sl.Own.row fRK allOk_nil (by have := Me.out; omega) (by simp) hM
    have h0 : OtRel y5 l (.int .i64 0) (.slice (some ⟨M, 0, none⟩) 0 0) v1 := ⟨⟨0, _, 0, by omega, rfl, rfl, hM0⟩, nM.below⟩
    have RA := Lib.hid rA5; have RB := Lib.hid rB5; have RC := Lib.hid rC5; have BEL := Lib.hid bel5
    clear hM0 Me hM nM rA5 rB5 rC5 bel5
    go_loopw [20, 9] (fun i mv wr => OtRel y5 l i mv wr) (fun i _ _ => l.length - (intOf i).toNat)
    case atStart => exact h0
    case round =>
      clear h0
      obtain ⟨⟨k, mp, mc, hk, rfl, rfl, hown⟩, bel⟩ := hrel
      by_cases hlt : k < l.length
      · obtain ⟨t, g, o, ht, kt, hP, hgl, hrs⟩ := HS.out.get hlt
        subst hP
        have RT := Lib.hid (range_block hrs ((below_step BEL.out BEL.out.size bel).block g hgl)); have KT := Lib.hid kt; have HT := Lib.hid ht
        have ik : (k : Int) < (l.length : Int) := by omega
        clear hrs kt ht
        go_wp2_with (first
          | ((with_reducible refine at_slot 22 ?_); (refine arm_want (.pointer (some ⟨g, o + k * 65, none⟩)) 22 rfl (by kernel_rfl) (run_op_index fK _ _ rfl g o _ _ rfl .i64 _ rfl k rfl hlt _) ?_))
          | ((with_reducible refine at_slot 23 ?_); (refine arm_load (o := ⟨some 23, _, _, _, _, _⟩) rfl _ _ rfl g (o + k * 65) rfl (kcs t) (RT.out) (sz_key KT.out) ?_))
          | ((with_reducible refine at_slot 11 ?_); (refine arm_alloc (o := ⟨some 11, _, _, _, _, _⟩) rfl _ rfl (kcs zk) z_key ?_); intro X v101 Xe hv101 nv101)
          | ((with_reducible refine arm_store (o := ⟨none, _, _, _, _, _⟩) rfl _ _ _ rfl X 0 rfl (kcs t) rfl _ _ (hv101) (fitK KT.out) (kcs_one _) (sz_key KT.out) ?_); intro v102 hv102 ov102 sv102)
          | ((with_reducible refine at_slot 25 ?_); (refine arm_load (o := ⟨some 25, _, _, _, _, _⟩) rfl _ _ rfl X 0 rfl (kcs t) ((show Has (kcs t) 0 (kcs t) from Has.refl _).range ((hv102.congr (allK KT.out)))) (sz_key KT.out) ?_))
          | ((with_reducible refine at_slot 26 ?_); (refine arm_lit (K := kRK) (o := ⟨some 26, _, _, _, _, _⟩) rfl fRK [t] (allOk_cons KT.out allOk_nil) (by simp) _ _ rfl rfl (by simp only [List.map_toArray, List.map_cons, List.map_nil]; rfl) ?_); intro Y vY Ye hY nY)
          | ((with_reducible refine at_slot 27 ?_); (refine arm_append (K := kRK) (o := ⟨some 27, _, _, _, _, _⟩) rfl fRK _ _ rfl (y5.heap.size) (mp) _ mc (l.take k) (by rw [List.length_take]; omega) rfl (((hown.below nv101.below).only ov102 (fun e => by have := (hown.ge e).2; have := Xe.out; omega)).below nY.below) (some ⟨Y, 0, none⟩) 1 1 ([t]) rfl rfl (At.row fRK (allOk_cons KT.out allOk_nil) hY (List.append_nil _).symm) (by simp) (by simp only [List.length_take, List.length_cons, List.length_nil]; have := HL.out; omega) (by have := bel.size; have := nv101.size; have := sv102.out; have := nY.size; omega) ?_); intro mp2 mc2 vZ hO hBZ hkp hat; rw [show (l.take k ++ [t]).length = k + 1 by rw [List.length_append, List.length_take, List.length_cons, List.length_nil]; omega]))
        rw [otake_snoc HT.out] at hO
        have belX := (below_only (below_step bel bel.size nv101.below) ov102 (by have := Xe.out; have := bel.size; omega) (by have := nv101.size; have := bel.size; omega))
        have belZ : Below y5.heap.size y5 vZ := (below_step belX belX.size nY.below).trans hBZ
        clear hown bel belX Xe hv101 nv101 hv102 ov102 sv102 Ye hY nY hBZ hkp hat
        go_roundw
        case rel => exact ⟨⟨k + 1, mp2, mc2, by omega, by go_num, rfl, hO⟩, belZ⟩
        case measure => simp [intOf]; omega
      · obtain rfl : k = l.length := by omega
        rw [List.take_length] at hown
        have hAt := Lib.hid (hown.at fRK)
        have HS2 := Lib.hid (HS.out.below (below_step BEL.out BEL.out.size bel))
        have TK := Lib.hid (HKW.out _ (below_step BEL.out BEL.out.size bel)); have TK2 := Lib.hid (HKR.out _ (below_step BEL.out BEL.out.size bel))
        have QA := Lib.hid (RA.out.old bel); have QB := Lib.hid (RB.out.old bel); have QC := Lib.hid (RC.out.old bel)
        have l1 := Lib.hid (show 1 < wr.heap.size from range_lt TK.out (by simp [u32s, ks])); have l2 := Lib.hid (show 2 < wr.heap.size from range_lt TK2.out (by simp [u32s, ks]))
        clear hown RA RB RC HS HKW HKR
        go_wp2_with fail
        refine wp_region_quiet (C := fun w' => Below wr.heap.size wr w') (by kernel_rfl) (by kernel_rfl) ((Below.refl _ _).drew) ?_
        rw [List.toList_toArray]
        refine q_value 29 rfl (.agg (scs s).toArray) (by kernel_rfl) (fun w' hC => run_op_load _ _ rfl A 0 rfl (scs s) ((Has.refl _).range (QA.out.old hC)) (sz_sta OK.out)) ?_
        simp only [Act.put, List.setIfInBounds_toArray, List.set_cons_zero, List.set_cons_succ]
        refine q_call 30 rfl (.agg (kcs kg).toArray) 7 #[.agg (scs s).toArray] (by kernel_rfl) (fun w' _ => run_op_call _ _ _ rfl _ (by simp only [List.map_toArray, List.map_cons, List.map_nil]; rfl) Tryd.func7 (by kernel_rfl) (by kernel_rfl) w') (fun w' hC => (CF.out w' (range_block TK.out (hC.block _ l1.out))).mono fun e w'' h => ⟨h.1, below_step hC hC.size h.2⟩) ?_
        simp only [Act.put, List.setIfInBounds_toArray, List.set_cons_zero, List.set_cons_succ]
        refine q_value 31 rfl (.agg (scs s).toArray) (by kernel_rfl) (fun w' hC => run_op_load _ _ rfl A 0 rfl (scs s) ((Has.refl _).range (QA.out.old hC)) (sz_sta OK.out)) ?_
        simp only [Act.put, List.setIfInBounds_toArray, List.set_cons_zero, List.set_cons_succ]
        refine q_call 32 rfl (.agg (scs s).toArray) 9 #[.agg (scs s).toArray] (by kernel_rfl) (fun w' _ => run_op_call _ _ _ rfl _ (by simp only [List.map_toArray, List.map_cons, List.map_nil]; rfl) Tryd.func9 (by kernel_rfl) (by kernel_rfl) w') (fun w' hC => (CO.out w').mono fun e w'' h => ⟨h.1, below_step hC hC.size h.2⟩) ?_
        simp only [Act.put, List.setIfInBounds_toArray, List.set_cons_zero, List.set_cons_succ]
        refine q_call 33 rfl (.agg (kcs kg).toArray) 8 #[.agg (scs s).toArray] (by kernel_rfl) (fun w' _ => run_op_call _ _ _ rfl _ (by simp only [List.map_toArray, List.map_cons, List.map_nil]; rfl) Tryd.func8 (by kernel_rfl) (by kernel_rfl) w') (fun w' hC => (CF2.out w' (range_block TK2.out (hC.block _ l2.out))).mono fun e w'' h => ⟨h.1, below_step hC hC.size h.2⟩) ?_
        simp only [Act.put, List.setIfInBounds_toArray, List.set_cons_zero, List.set_cons_succ]
        refine q_value 34 rfl (.bool true) (by kernel_rfl) (fun w' _ => run_op_eqlRK KK.out KK.out _ _ _ rfl rfl rfl true (by simp) w') ?_
        simp only [Act.put, List.setIfInBounds_toArray, List.set_cons_zero, List.set_cons_succ]
        refine q_value 35 rfl (.bool true) (by kernel_rfl) (fun w' _ => by kernel_rfl) ?_
        simp only [Act.put, List.setIfInBounds_toArray, List.set_cons_zero, List.set_cons_succ]
        refine q_value 36 rfl (.agg (kcs x).toArray) (by kernel_rfl) (fun w' hC => run_op_load _ _ rfl B 0 rfl (kcs x) ((Has.refl _).range (QB.out.old hC)) (sz_key KX.out)) ?_
        simp only [Act.put, List.setIfInBounds_toArray, List.set_cons_zero, List.set_cons_succ]
        refine q_value 37 rfl (.agg (kcs y).toArray) (by kernel_rfl) (fun w' hC => run_op_load _ _ rfl C 0 rfl (kcs y) ((Has.refl _).range (QC.out.old hC)) (sz_key KY.out)) ?_
        simp only [Act.put, List.setIfInBounds_toArray, List.set_cons_zero, List.set_cons_succ]
        refine q_call 38 rfl (.int .i64 zc) 10 #[.agg (kcs x).toArray, .agg (kcs y).toArray] (by kernel_rfl) (fun w' _ => run_op_call _ _ _ rfl _ (by simp only [List.map_toArray, List.map_cons, List.map_nil]; rfl) Tryd.func10 (by kernel_rfl) (by kernel_rfl) w') (fun w' hC => (CC.out w').mono fun e w'' h => ⟨h.1, below_step hC hC.size h.2⟩) ?_
        simp only [Act.put, List.setIfInBounds_toArray, List.set_cons_zero, List.set_cons_succ]
        refine q_value 39 rfl (.agg (kcs x).toArray) (by kernel_rfl) (fun w' hC => run_op_load _ _ rfl B 0 rfl (kcs x) ((Has.refl _).range (QB.out.old hC)) (sz_key KX.out)) ?_
        simp only [Act.put, List.setIfInBounds_toArray, List.set_cons_zero, List.set_cons_succ]
        refine q_value 40 rfl (.agg (kcs y).toArray) (by kernel_rfl) (fun w' hC => run_op_load _ _ rfl C 0 rfl (kcs y) ((Has.refl _).range (QC.out.old hC)) (sz_key KY.out)) ?_
        simp only [Act.put, List.setIfInBounds_toArray, List.set_cons_zero, List.set_cons_succ]
        refine q_call 41 rfl (.int .i64 zc) 11 #[.agg (kcs x).toArray, .agg (kcs y).toArray] (by kernel_rfl) (fun w' _ => run_op_call _ _ _ rfl _ (by simp only [List.map_toArray, List.map_cons, List.map_nil]; rfl) Tryd.func11 (by kernel_rfl) (by kernel_rfl) w') (fun w' hC => (CC2.out w').mono fun e w'' h => ⟨h.1, below_step hC hC.size h.2⟩) ?_
        simp only [Act.put, List.setIfInBounds_toArray, List.set_cons_zero, List.set_cons_succ]
        refine q_value 42 rfl (.bool true) (by kernel_rfl) (fun w' _ => cmp_eql _ _ .i64 (by kernel_rfl) _ _ rfl .i64 zc zc rfl rfl true (decide_eq_true rfl) w') ?_
        simp only [Act.put, List.setIfInBounds_toArray, List.set_cons_zero, List.set_cons_succ]
        refine q_value 43 rfl (.bool true) (by kernel_rfl) (fun w' _ => by kernel_rfl) ?_
        simp only [Act.put, List.setIfInBounds_toArray, List.set_cons_zero, List.set_cons_succ]
        refine q_value 44 rfl (.bool true) (by kernel_rfl) (fun w' _ => by kernel_rfl) ?_
        simp only [Act.put, List.setIfInBounds_toArray, List.set_cons_zero, List.set_cons_succ]
        refine q_value 45 rfl (.pointer (some ⟨B, 33, none⟩)) (by kernel_rfl) (fun w' _ => by kernel_rfl) ?_
        simp only [Act.put, List.setIfInBounds_toArray, List.set_cons_zero, List.set_cons_succ]
        refine q_value 46 rfl (.agg (u8s x.hash).toArray) (by kernel_rfl) (fun w' hC => run_op_load _ _ rfl B 33 rfl (u8s x.hash) ((k33 KX.out).range (QB.out.old hC)) (szH KX.out.hash)) ?_
        simp only [Act.put, List.setIfInBounds_toArray, List.set_cons_zero, List.set_cons_succ]
        refine q_value 47 rfl (.pointer (some ⟨C, 33, none⟩)) (by kernel_rfl) (fun w' _ => by kernel_rfl) ?_
        simp only [Act.put, List.setIfInBounds_toArray, List.set_cons_zero, List.set_cons_succ]
        refine q_value 48 rfl (.agg (u8s y.hash).toArray) (by kernel_rfl) (fun w' hC => run_op_load _ _ rfl C 33 rfl (u8s y.hash) ((k33 KY.out).range (QC.out.old hC)) (szH KY.out.hash)) ?_
        simp only [Act.put, List.setIfInBounds_toArray, List.set_cons_zero, List.set_cons_succ]
        refine q_call 49 rfl (.int .i64 zd) 12 #[.agg (u8s x.hash).toArray, .agg (u8s y.hash).toArray] (by kernel_rfl) (fun w' _ => run_op_call _ _ _ rfl _ (by simp only [List.map_toArray, List.map_cons, List.map_nil]; rfl) Tryd.func12 (by kernel_rfl) (by kernel_rfl) w') (fun w' hC => (CH.out w').mono fun e w'' h => ⟨h.1, below_step hC hC.size h.2⟩) ?_
        simp only [Act.put, List.setIfInBounds_toArray, List.set_cons_zero, List.set_cons_succ]
        refine q_value 50 rfl (.pointer (some ⟨B, 33, none⟩)) (by kernel_rfl) (fun w' _ => by kernel_rfl) ?_
        simp only [Act.put, List.setIfInBounds_toArray, List.set_cons_zero, List.set_cons_succ]
        refine q_value 51 rfl (.agg (u8s x.hash).toArray) (by kernel_rfl) (fun w' hC => run_op_load _ _ rfl B 33 rfl (u8s x.hash) ((k33 KX.out).range (QB.out.old hC)) (szH KX.out.hash)) ?_
        simp only [Act.put, List.setIfInBounds_toArray, List.set_cons_zero, List.set_cons_succ]
        refine q_value 52 rfl (.pointer (some ⟨C, 33, none⟩)) (by kernel_rfl) (fun w' _ => by kernel_rfl) ?_
        simp only [Act.put, List.setIfInBounds_toArray, List.set_cons_zero, List.set_cons_succ]
        refine q_value 53 rfl (.agg (u8s y.hash).toArray) (by kernel_rfl) (fun w' hC => run_op_load _ _ rfl C 33 rfl (u8s y.hash) ((k33 KY.out).range (QC.out.old hC)) (szH KY.out.hash)) ?_
        simp only [Act.put, List.setIfInBounds_toArray, List.set_cons_zero, List.set_cons_succ]
        refine q_call 54 rfl (.int .i64 zd) 13 #[.agg (u8s x.hash).toArray, .agg (u8s y.hash).toArray] (by kernel_rfl) (fun w' _ => run_op_call _ _ _ rfl _ (by simp only [List.map_toArray, List.map_cons, List.map_nil]; rfl) Tryd.func13 (by kernel_rfl) (by kernel_rfl) w') (fun w' hC => (CH2.out w').mono fun e w'' h => ⟨h.1, below_step hC hC.size h.2⟩) ?_
        simp only [Act.put, List.setIfInBounds_toArray, List.set_cons_zero, List.set_cons_succ]
        refine q_value 55 rfl (.bool true) (by kernel_rfl) (fun w' _ => cmp_eql _ _ .i64 (by kernel_rfl) _ _ rfl .i64 zd zd rfl rfl true (decide_eq_true rfl) w') ?_
        simp only [Act.put, List.setIfInBounds_toArray, List.set_cons_zero, List.set_cons_succ]
        refine q_value 56 rfl (.bool true) (by kernel_rfl) (fun w' _ => by kernel_rfl) ?_
        simp only [Act.put, List.setIfInBounds_toArray, List.set_cons_zero, List.set_cons_succ]
        refine q_value 57 rfl (.bool true) (by kernel_rfl) (fun w' _ => by kernel_rfl) ?_
        simp only [Act.put, List.setIfInBounds_toArray, List.set_cons_zero, List.set_cons_succ]
        refine q_value 58 rfl (.slice P l.length pc) (by kernel_rfl) (fun w' _ => by kernel_rfl) ?_
        simp only [Act.put, List.setIfInBounds_toArray, List.set_cons_zero, List.set_cons_succ]
        refine q_call 59 rfl (.int .i64 zt) 14 #[.slice P l.length pc] (by kernel_rfl) (fun w' _ => run_op_call _ _ _ rfl _ (by simp only [List.map_toArray, List.map_cons, List.map_nil]; rfl) Tryd.func14 (by kernel_rfl) (by kernel_rfl) w') (fun w' hC => (CG.out w' (HS2.out.below hC)).mono fun e w'' h => ⟨h.1, below_step hC hC.size h.2⟩) ?_
        simp only [Act.put, List.setIfInBounds_toArray, List.set_cons_zero, List.set_cons_succ]
        refine q_value 60 rfl (.slice mp l.length mc) (by kernel_rfl) (fun w' _ => by kernel_rfl) ?_
        simp only [Act.put, List.setIfInBounds_toArray, List.set_cons_zero, List.set_cons_succ]
        refine q_call 61 rfl (.int .i64 zt) 15 #[.slice mp l.length mc] (by kernel_rfl) (fun w' _ => run_op_call _ _ _ rfl _ (by simp only [List.map_toArray, List.map_cons, List.map_nil]; rfl) Tryd.func15 (by kernel_rfl) (by kernel_rfl) w') (fun w' hC => (CG2.out mp mc w' (hAt.out.below hC)).mono fun e w'' h => ⟨h.1, below_step hC hC.size h.2⟩) ?_
        simp only [Act.put, List.setIfInBounds_toArray, List.set_cons_zero, List.set_cons_succ]
        refine q_value 62 rfl (.bool true) (by kernel_rfl) (fun w' _ => cmp_eql _ _ .i64 (by kernel_rfl) _ _ rfl .i64 zt zt rfl rfl true (decide_eq_true rfl) w') ?_
        simp only [Act.put, List.setIfInBounds_toArray, List.set_cons_zero, List.set_cons_succ]
        refine q_value 63 rfl (.bool true) (by kernel_rfl) (fun w' _ => by kernel_rfl) ?_
        simp only [Act.put, List.setIfInBounds_toArray, List.set_cons_zero, List.set_cons_succ]
        refine q_value 8 rfl (.bool true) (by kernel_rfl) (fun w' _ => by kernel_rfl) ?_
        simp only [Act.put, List.setIfInBounds_toArray, List.set_cons_zero, List.set_cons_succ]
        refine wpQuiet_nil ?_
        intro w2 hC
        have belE := below_step (below_step BEL.out BEL.out.size bel) (below_step BEL.out BEL.out.size bel).size hC
        go_wp2_with fail
        go_ret
        exact ⟨rfl, belE⟩
end Go.Proofs.YtffdmfclakgocaaDoor.Od
