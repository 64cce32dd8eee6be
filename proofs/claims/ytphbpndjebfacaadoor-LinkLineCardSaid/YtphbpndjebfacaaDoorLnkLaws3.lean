/-
  The walk of layer 11's statement LinkLine, out of the contracts: it returns true, and changes nothing that was there. Over this seat's translation.
-/
import Derived.Test.YtphbpndjebfacaaDoorLnkAwake
import Derived.Test.YtphbpndjebfacaaDoorLnkChain
import Derived.Deep.DeepCutAuto
namespace Go.Proofs.YtphbpndjebfacaaDoor.Lk
open Go.ChangeShapes Go.WideShapes Go.ChangeAt Go.RowKit Go.Proofs.YtphbpndjebfacaaDoor.Mem Go.Proofs.YtphbpndjebfacaaDoor.Bt Go.Proofs.YtphbpndjebfacaaDoor.Rg Go.Proofs.YtphbpndjebfacaaDoor.Wn Go.Proofs.YtphbpndjebfacaaDoor.Sa Go.Proofs.YtphbpndjebfacaaDoor.Sha Go.Proofs.YtphbpndjebfacaaDoor.Gr Go.Proofs.YtphbpndjebfacaaDoor.Sl
open Go.Proofs.YtphbpndjebfacaaDoor.Ep (H32 Dat Blk zh zh_ok num32 zd zd_ok Has h_len one_app one_num szH zH fitH allH)
set_option linter.unusedVariables false
set_option linter.unusedSimpArgs false

structure LlRel (w : World) (l : List Gb) (i mv : Value) (wr : World) : Prop where
  ex : ∃ (k : Nat) (p : Option Addr) (cap : Nat) (st : List Sta), k ≤ l.length ∧ i = .int .i64 (k : Int) ∧ mv = .slice p st.length cap ∧ Sl.Own kS wr w.heap.size p cap st ∧ 0 < st.length ∧ st.length ≤ k + 1 ∧ Line1 st
  bel : Below w.heap.size w wr
structure LmRel (w : World) (st : List Sta) (p : Option Addr) (cap : Nat) (i : Value) (wr : World) : Prop where
  ex : ∃ k : Nat, k ≤ st.length ∧ i = .int .i64 (k : Int) ∧ Sl.Own kS wr w.heap.size p cap st
  bel : Below w.heap.size w wr
set_option maxHeartbeats 4000000 in
set_option maxRecDepth 100000 in
theorem linkLine_any (x : List Nat) (l : List Gb) (P : Option Addr) (pc : Nat) (out : Int) (w : World) (kx : H32 x) (hs : At kG w P l) (hou : -9223372036854775808 ≤ out ∧ out ≤ 9223372036854775807) (hk : w.rangeAt 0 0 (u32s ks)) :
    Calls Tryd.prog 5 #[.agg (u8s x).toArray, .slice P l.length pc, .int .i64 out] w fun e w' => e = .returned (.bool true) ∧ Below w.heap.size w w' := by
  have hk1 : 0 < w.heap.size := range_lt hk (by simp [u32s, ks])
  have HKW : Hid (∀ w', Below w.heap.size w w' → w'.rangeAt 0 0 (u32s ks)) := Lib.hid fun w' hb => range_block hk (hb.block _ hk1)
  have KX := Lib.hid kx; have HS := Lib.hid hs
  have CA := Lib.hid (fun w0 h => awake_any w0 h)
  by_cases hbig : 40 < l.length
  · have hbd : decide ((40 : Int) < (l.length : Int)) = true := decide_eq_true (by omega)
    have hbd2 : decide (40 < l.length) = true := decide_eq_true hbig
    clear kx hs hk hk1 HS
    go_enter Tryd.func5, Tryd.ntmps5
    go_wp2_with (first
      | ((with_reducible refine at_slot 3 ?_); (refine arm_box (o := ⟨some 3, _, _, _, _, _⟩) rfl _ _ rfl (u8s x) rfl ?_); intro X v1 Xe hv1 nv1))
    have q0 := Xe.out
    have q1 := nv1.size
    have lX : w.heap.size ≤ X := by omega
    have rX2 : Row v1 X 23 (u8s x) := hv1
    have bel2 : Below w.heap.size w v1 := (below_step (Below.refl _ _) (by omega) nv1.below)
    clear q0 q1 Xe hv1 nv1
    refine (CA.out _ (HKW.out _ bel2)).mono ?_
    rintro e y3 ⟨rfl, hB⟩
    have rX3 : Row y3 X 23 (u8s x) := rX2.old hB
    have bel3 : Below w.heap.size w y3 := below_step bel2 bel2.size hB
    clear hB rX2 bel2
    go_wp2_with fail
    go_ret
    exact ⟨rfl, bel3⟩
  · have hbd : decide ((40 : Int) < (l.length : Int)) = false := decide_eq_false (by omega)
    have hbd2 : decide (40 < l.length) = false := decide_eq_false hbig
    have CG := Lib.hid (fun w0 => sgenesis_any x w0 kx)
    have GK := Lib.hid (gen_ok kx)
    have GR := Lib.hid (gen_right x)
    generalize genS x = g0 at CG GK GR
    clear hs hk hk1 kx
    go_enter Tryd.func5, Tryd.ntmps5
    go_wp2_with (first
      | ((with_reducible refine at_slot 3 ?_); (refine arm_box (o := ⟨some 3, _, _, _, _, _⟩) rfl _ _ rfl (u8s x) rfl ?_); intro X v1 Xe hv1 nv1))
    have q0 := Xe.out
    have q1 := nv1.size
    have lX : w.heap.size ≤ X := by omega
    have rX2 : Row v1 X 23 (u8s x) := hv1
    have bel2 : Below w.heap.size w v1 := (below_step (Below.refl _ _) (by omega) nv1.below)
    clear q0 q1 Xe hv1 nv1
    refine (CA.out _ (HKW.out _ bel2)).mono ?_
    rintro e y3 ⟨rfl, hB⟩
    have rX3 : Row y3 X 23 (u8s x) := rX2.old hB
    have bel3 : Below w.heap.size w y3 := below_step bel2 bel2.size hB
    clear hB rX2 bel2
    go_wp2_with (first
      | ((with_reducible refine at_slot 25 ?_); (refine arm_load (o := ⟨some 25, _, _, _, _, _⟩) rfl _ _ rfl X 0 rfl (u8s x) ((show Has (u8s x) 0 (u8s x) from Has.refl _).range (rX3)) (szH KX.out) ?_)))
    refine (CG.out _).mono ?_
    rintro e y4 ⟨rfl, hB⟩
    have rX4 : Row y4 X 23 (u8s x) := rX3.old hB
    have bel4 : Below w.heap.size w y4 := below_step bel3 bel3.size hB
    clear hB rX3 bel3
    clear rX4
    go_wp2_with (first
      | ((with_reducible refine at_slot 27 ?_); (refine arm_lit (K := kS) (o := ⟨some 27, _, _, _, _, _⟩) rfl fS [g0] (allOk_cons GK.out allOk_nil) (by simp) _ _ rfl rfl (by simp only [List.map_toArray, List.map_cons, List.map_nil]; rfl) ?_); intro M v1 Me hM nM))
    have hM0 : Sl.Own kS v1 w.heap.size (some ⟨M, 0, none⟩) 1 [g0] := Sl.Own.row fS (allOk_cons GK.out allOk_nil) (by have := Me.out; have := bel4.size; omega) (by unfold maxLen; simp) hM
    have bel1 : Below w.heap.size w v1 := below_step bel4 bel4.size nM.below
    have h0 : LlRel w l (.int .i64 0) (.slice (some ⟨M, 0, none⟩) 1 1) v1 := ⟨⟨0, _, 1, [g0], by omega, rfl, rfl, hM0, by simp, by simp, Line1.one GR.out⟩, bel1⟩
    clear hM0 bel1 bel4 Me hM nM CG GK GR CA
    go_loopw [30, 7] (fun i mv wr => LlRel w l i mv wr) (fun i _ _ => l.length - (intOf i).toNat)
    case atStart => exact h0
    case round =>
      clear h0
      obtain ⟨⟨k, mp, mc, st, hk, rfl, rfl, hown, hpos, hle, hline⟩, bel⟩ := hrel
      by_cases hlt : k < l.length
      · obtain ⟨b, g, o, hb, kb, hP, hgl, hrs⟩ := HS.out.get hlt
        subst hP
        have RB := Lib.hid (range_block hrs (bel.block g hgl)); have KB := Lib.hid kb
        obtain ⟨j, hj⟩ : ∃ j, st.length = j + 1 := ⟨st.length - 1, by omega⟩
        obtain ⟨t, g2, o2, ht, kt, hP2, hg2, hrs2⟩ := (hown.at fS).get (k := j) (by omega)
        have KT := Lib.hid kt; have HT := Lib.hid ht; have HJ := Lib.hid hj; have HP2 := Lib.hid hP2
        have rt := hline.right t (List.mem_of_getElem? ht)
        have HL := Lib.hid hline
        have CC := Lib.hid (fun w0 h => child_any t b w0 kt rt kb h)
        have KC := Lib.hid (chS_ok kt rt kb)
        have HGO : Hid (chE t b = 0 → Line1 (st ++ [chS t b])) := Lib.hid fun hz => hline.snoc hj ht hz
        generalize chS t b = c at CC KC HGO
        generalize chE t b = z at CC HGO
        obtain ⟨n, hn⟩ : ∃ n, n = st.length := ⟨_, rfl⟩
        have HN := Lib.hid hn
        have HJ2 : Hid (IntKind.i64.wrap ((n : Int) - 1) = (j : Int)) := Lib.hid (by rw [IntKind.wrap_i64]; omega)
        rw [← hn] at hpos hle ⊢
        have ik : (k : Int) < (l.length : Int) := by omega
        clear hrs kb ht kt rt hline hj hP2 hn
        go_wp2_with (first
          | ((with_reducible refine at_slot 32 ?_); (refine arm_want (.pointer (some ⟨g, o + k * 65, none⟩)) 32 rfl (by kernel_rfl) (run_op_index fG _ _ rfl g o _ _ rfl .i64 _ rfl k rfl hlt _) ?_))
          | ((with_reducible refine at_slot 33 ?_); (refine arm_load (o := ⟨some 33, _, _, _, _, _⟩) rfl _ _ rfl g (o + k * 65) rfl (gcs b) (RB.out) (sz_gb KB.out) ?_))
          | ((with_reducible refine at_slot 9 ?_); (refine arm_alloc (o := ⟨some 9, _, _, _, _, _⟩) rfl _ rfl (gcs zg) z_gb ?_); intro N1 v101 N1e hv101 nv101)
          | ((with_reducible refine arm_store (o := ⟨none, _, _, _, _, _⟩) rfl _ _ _ rfl N1 0 rfl (gcs b) rfl _ _ (hv101) (fitG KB.out) (gcs_one _) (sz_gb KB.out) ?_); intro v102 hv102 ov102 sv102))
        have q0 := N1e.out
        have q1 := nv101.size
        have q2 := sv102.out
        have q3 := bel.size
        have lN1 : w.heap.size ≤ N1 := by omega
        have pX : bk mp ≠ some N1 := fun e => by have := (hown.ge e).2; omega
        replace hrs2 := range_block (range_block hrs2 (nv101.below.block g2 hg2)) (ov102.block g2 (by omega) (by omega))
        have rN1103 : Row v102 N1 57 (gcs b) := (hv102.congr (allG KB.out))
        have hown103 := ((hown.below nv101.below).only ov102 pX)
        have bel103 : Below w.heap.size w v102 := (below_only (below_step bel (by omega) nv101.below) ov102 lN1 (by omega))
        clear q0 q1 q2 q3 hown bel N1e hv101 nv101 hv102 ov102 sv102
        have hg3 : g2 < v102.heap.size := range_lt hrs2 (cs_ne fS KT.out)
        have hk1' : 0 < w.heap.size := range_lt (HKW.out w (Below.refl _ _)) (by simp [u32s, ks])
        go_cut [10, 11] (fun nn ee wx => ∃ N : Nat, nn = .pointer (some ⟨N, 0, none⟩) ∧ ee = .int .i64 z ∧ Row wx N 35 (scs c) ∧ Below v102.heap.size v102 wx ∧ v102.heap.size ≤ N)
        case first =>
          obtain ⟨Z, hZ⟩ : ∃ Z, Z = v102.heap.size := ⟨_, rfl⟩
          refine wp_region_held (S := fun w' => Below Z v102.drew w') (by kernel_rfl) ?_
          change wpAnyH _ _ _ _ _ _ _ _ v102.drew
          have rTz : v102.drew.rangeAt g2 (o2 + j * 363) (scs t) := hrs2
          have rNz : Row v102.drew N1 57 (gcs b) := rN1103
          have kz : v102.drew.rangeAt 0 0 (u32s ks) := HKW.out _ bel103.drew
          have belz : Below v102.heap.size v102 v102.drew := (Below.refl _ _).drew
          have hS : Below Z v102.drew v102.drew := Below.refl _ _
          have ez : v102.drew.heap.size = v102.heap.size := rfl
          have ZL : Hid (Z ≤ v102.drew.heap.size) := Lib.hid (by omega)
          have ZE : Hid (v102.drew.heap.size = Z) := Lib.hid (by omega)
          have ZW := Lib.hid hZ
          generalize v102.drew = wz at rTz rNz kz belz hS ZL ZE ⊢
          clear hZ ez
          refine h_take 0 (.slice mp n mc) rfl 35 rfl (by kernel_rfl) (by kernel_rfl) (by kernel_rfl) (by kernel_rfl) (fun _ _ _ h => h) (fun w' _ => by kernel_rfl) hS ?_
          simp only [Act.put, List.setIfInBounds_toArray, List.set_cons_zero, List.set_cons_succ]
          refine h_take 1 (.slice mp n mc) rfl 36 rfl (by kernel_rfl) (by kernel_rfl) (by kernel_rfl) (by kernel_rfl) (fun _ _ _ h => h) (fun w' _ => by kernel_rfl) hS ?_
          simp only [Act.put, List.setIfInBounds_toArray, List.set_cons_zero, List.set_cons_succ]
          refine h_take 2 (.int .i64 (n : Int)) rfl 37 rfl (by kernel_rfl) (by kernel_rfl) (by kernel_rfl) (by kernel_rfl) (fun _ _ _ h => h) (fun w' _ => run_op_len _ _ _ rfl fS.und _ _ _ rfl w') hS ?_
          simp only [Act.put, List.setIfInBounds_toArray, List.set_cons_zero, List.set_cons_succ]
          refine h_take 3 (.int .i64 (j : Int)) rfl 38 rfl (by kernel_rfl) (by kernel_rfl) (by kernel_rfl) (by kernel_rfl) (fun _ _ _ h => h) (fun w' _ => run_op_sub64 _ _ _ _ rfl _ _ _ rfl rfl HJ2.out w') hS ?_
          simp only [Act.put, List.setIfInBounds_toArray, List.set_cons_zero, List.set_cons_succ]
          refine h_take 4 (.pointer (some ⟨g2, o2 + j * 363, none⟩)) rfl 39 rfl (by kernel_rfl) (by kernel_rfl) (by kernel_rfl) (by kernel_rfl) (fun _ _ _ h => h) (fun w' _ => run_op_index fS _ _ rfl g2 o2 n mc (by rw [← HP2.out]; rfl) .i64 _ rfl j rfl (by have := HJ.out; have := HN.out; omega) w') hS ?_
          simp only [Act.put, List.setIfInBounds_toArray, List.set_cons_zero, List.set_cons_succ]
          refine h_take 5 (.agg (scs t).toArray) rfl 40 rfl (by kernel_rfl) (by kernel_rfl) (by kernel_rfl) (by kernel_rfl) (fun _ _ _ h => h) (fun w' hC => run_op_load _ _ rfl g2 (o2 + j * 363) rfl (scs t) (range_block rTz (hC.block g2 (ZW.out ▸ hg3))) (sz_sta KT.out)) hS ?_
          simp only [Act.put, List.setIfInBounds_toArray, List.set_cons_zero, List.set_cons_succ]
          refine h_take 6 (.agg (gcs b).toArray) rfl 41 rfl (by kernel_rfl) (by kernel_rfl) (by kernel_rfl) (by kernel_rfl) (fun _ _ _ h => h) (fun w' hC => run_op_load _ _ rfl N1 0 rfl (gcs b) ((Has.refl _).range (rNz.below hC (ZW.out ▸ rN1103.lt))) (sz_gb KB.out)) hS ?_
          simp only [Act.put, List.setIfInBounds_toArray, List.set_cons_zero, List.set_cons_succ]
          refine h_two (i := 7) (j := 11) (by kernel_rfl) ?_ ?_
          · skip
            refine (o_call rfl 42 rfl (by kernel_rfl) (run_op_call 14 _ _ rfl #[.agg (scs t).toArray, .agg (gcs b).toArray] (by simp only [List.map_toArray, List.map_cons, List.map_nil]; rfl) Tryd.func14 (by kernel_rfl) (by kernel_rfl) _) (CC.out _ (range_block kz (hS.block _ (by have := ZW.out; have := bel103.size; have := hk1'; omega)))) ?_)
            rintro e y1 ⟨rfl, hB⟩
            have hS1 : Below Z wz y1 := below_step hS (Nat.le_trans ZL.out hS.size) hB
            refine ⟨_, rfl, hS1, ?_⟩
            clear hB
            simp only [Act.put, List.setIfInBounds_toArray, List.set_cons_zero, List.set_cons_succ]
            refine h_take 8 (.tuple #[.agg (scs c).toArray, .int .i64 z]) rfl 34 rfl (by kernel_rfl) (by kernel_rfl) (by kernel_rfl) (by kernel_rfl) (fun _ _ _ h => h) (fun w' _ => by kernel_rfl) hS1 ?_
            simp only [Act.put, List.setIfInBounds_toArray, List.set_cons_zero, List.set_cons_succ]
            refine h_take 9 (.agg (scs c).toArray) rfl 43 rfl (by kernel_rfl) (by kernel_rfl) (by kernel_rfl) (by kernel_rfl) (fun _ _ _ h => h) (fun w' _ => by kernel_rfl) hS1 ?_
            simp only [Act.put, List.setIfInBounds_toArray, List.set_cons_zero, List.set_cons_succ]
            refine h_take 10 (.int .i64 z) rfl 44 rfl (by kernel_rfl) (by kernel_rfl) (by kernel_rfl) (by kernel_rfl) (fun _ _ _ h => h) (fun w' _ => by kernel_rfl) hS1 ?_
            simp only [Act.put, List.setIfInBounds_toArray, List.set_cons_zero, List.set_cons_succ]
            refine h_one (i := 11) (by kernel_rfl) (o_value _ rfl 10 rfl (by kernel_rfl) (run_op_alloc _ rfl (scs zs) z_sta) ?_)
            have hN := new_alloc y1 (.cells (scs zs).toArray 35)
            have rN2 : Row (y1.alloc (.cells (scs zs).toArray 35)) y1.heap.size 35 (scs zs) := heap_alloc_new _ _
            have lN : Z ≤ y1.heap.size := Nat.le_trans ZL.out hS1.size
            generalize y1.alloc (.cells (scs zs).toArray 35) = y2 at hN rN2 ⊢
            have hS2 : Below Z wz y2 := below_step hS1 (Nat.le_trans ZL.out hS1.size) hN.below
            clear hN
            refine ⟨hS2, ?_⟩
            generalize y1.heap.size = N at rN2 lN ⊢
            simp only [Act.put, List.setIfInBounds_toArray, List.set_cons_zero, List.set_cons_succ]
            refine h_one (i := 12) (by kernel_rfl) (o_skip rfl rfl (by kernel_rfl) (run_op_store _ _ _ rfl N 0 rfl (scs c) rfl _ _ rN2 (fitS KC.out) (scs_one _) (sz_sta KC.out)) ?_)
            have rNf := row_setRow rN2 (lay (scs zs) 0 (scs c))
            have oNf := Only.setRow N y2 (lay (scs zs) 0 (scs c)).toArray
            generalize y2.setRow N (lay (scs zs) 0 (scs c)).toArray = yf at rNf oNf ⊢
            have hSf : Below Z wz yf := below_only hS2 oNf lN (Nat.le_trans ZL.out hS2.size)
            refine ⟨hSf, ?_⟩
            refine h_take 13 (.int .i64 z) rfl 11 rfl (by kernel_rfl) (by kernel_rfl) (by kernel_rfl) (by kernel_rfl) (fun _ _ _ h => h) (fun w' _ => by kernel_rfl) hSf ?_
            simp only [Act.put, List.setIfInBounds_toArray, List.set_cons_zero, List.set_cons_succ]
            refine wpAnyH_done (by kernel_rfl) ?_ _
            go_wp2_with fail
            go_meet
            exact ⟨N, rfl, rfl, rNf.congr (allS KC.out), belz.trans (ZW.out ▸ hSf), ZW.out ▸ lN⟩
          · skip
            refine (o_value _ rfl 10 rfl (by kernel_rfl) (run_op_alloc _ rfl (scs zs) z_sta) ?_)
            have hN := new_alloc wz (.cells (scs zs).toArray 35)
            have rN1 : Row (wz.alloc (.cells (scs zs).toArray 35)) wz.heap.size 35 (scs zs) := heap_alloc_new _ _
            have lN : Z ≤ wz.heap.size := Nat.le_trans ZL.out hS.size
            generalize wz.alloc (.cells (scs zs).toArray 35) = y1 at hN rN1 ⊢
            have hS1 : Below Z wz y1 := below_step hS (Nat.le_trans ZL.out hS.size) hN.below
            clear hN
            refine ⟨hS1, ?_⟩
            generalize wz.heap.size = N at rN1 lN ⊢
            simp only [Act.put, List.setIfInBounds_toArray, List.set_cons_zero, List.set_cons_succ]
            refine h_one (i := 7) (by kernel_rfl) (o_call rfl 42 rfl (by kernel_rfl) (run_op_call 14 _ _ rfl #[.agg (scs t).toArray, .agg (gcs b).toArray] (by simp only [List.map_toArray, List.map_cons, List.map_nil]; rfl) Tryd.func14 (by kernel_rfl) (by kernel_rfl) _) (CC.out _ (range_block kz (hS1.block _ (by have := ZW.out; have := bel103.size; have := hk1'; omega)))) ?_)
            rintro e y2 ⟨rfl, hB⟩
            have hS2 : Below Z wz y2 := below_step hS1 (Nat.le_trans ZL.out hS1.size) hB
            refine ⟨_, rfl, hS2, ?_⟩
            have rN2 := rN1.old hB
            clear hB
            simp only [Act.put, List.setIfInBounds_toArray, List.set_cons_zero, List.set_cons_succ]
            refine h_take 8 (.tuple #[.agg (scs c).toArray, .int .i64 z]) rfl 34 rfl (by kernel_rfl) (by kernel_rfl) (by kernel_rfl) (by kernel_rfl) (fun _ _ _ h => h) (fun w' _ => by kernel_rfl) hS2 ?_
            simp only [Act.put, List.setIfInBounds_toArray, List.set_cons_zero, List.set_cons_succ]
            refine h_take 9 (.agg (scs c).toArray) rfl 43 rfl (by kernel_rfl) (by kernel_rfl) (by kernel_rfl) (by kernel_rfl) (fun _ _ _ h => h) (fun w' _ => by kernel_rfl) hS2 ?_
            simp only [Act.put, List.setIfInBounds_toArray, List.set_cons_zero, List.set_cons_succ]
            refine h_take 10 (.int .i64 z) rfl 44 rfl (by kernel_rfl) (by kernel_rfl) (by kernel_rfl) (by kernel_rfl) (fun _ _ _ h => h) (fun w' _ => by kernel_rfl) hS2 ?_
            simp only [Act.put, List.setIfInBounds_toArray, List.set_cons_zero, List.set_cons_succ]
            refine h_one (i := 12) (by kernel_rfl) (o_skip rfl rfl (by kernel_rfl) (run_op_store _ _ _ rfl N 0 rfl (scs c) rfl _ _ rN2 (fitS KC.out) (scs_one _) (sz_sta KC.out)) ?_)
            have rNf := row_setRow rN2 (lay (scs zs) 0 (scs c))
            have oNf := Only.setRow N y2 (lay (scs zs) 0 (scs c)).toArray
            generalize y2.setRow N (lay (scs zs) 0 (scs c)).toArray = yf at rNf oNf ⊢
            have hSf : Below Z wz yf := below_only hS2 oNf lN (Nat.le_trans ZL.out hS2.size)
            refine ⟨hSf, ?_⟩
            refine h_take 13 (.int .i64 z) rfl 11 rfl (by kernel_rfl) (by kernel_rfl) (by kernel_rfl) (by kernel_rfl) (fun _ _ _ h => h) (fun w' _ => by kernel_rfl) hSf ?_
            simp only [Act.put, List.setIfInBounds_toArray, List.set_cons_zero, List.set_cons_succ]
            refine wpAnyH_done (by kernel_rfl) ?_ _
            go_wp2_with fail
            go_meet
            exact ⟨N, rfl, rfl, rNf.congr (allS KC.out), belz.trans (ZW.out ▸ hSf), ZW.out ▸ lN⟩
        case rest =>
          obtain ⟨N, rfl, rfl, rN, hbx, lN⟩ := hcut
          have bel9 : Below w.heap.size w wc := below_step bel103 bel103.size hbx
          have own9 := hown103.below hbx
          clear hbx rN1103 bel103 hown103 hrs2 hg3 lN HT HP2 CC RB
          by_cases hz : z = 0
          · obtain rfl := hz
            have HG := Lib.hid (HGO.out rfl)
            clear HGO HJ2 HL
            go_wp2_with (first
              | ((with_reducible refine at_slot 48 ?_); (refine arm_load (o := ⟨some 48, _, _, _, _, _⟩) rfl _ _ rfl N 0 rfl (scs c) ((show Has (scs c) 0 (scs c) from Has.refl _).range (rN)) (sz_sta KC.out) ?_))
              | ((with_reducible refine at_slot 49 ?_); (refine arm_lit (K := kS) (o := ⟨some 49, _, _, _, _, _⟩) rfl fS [c] (allOk_cons KC.out allOk_nil) (by simp) _ _ rfl rfl (by simp only [List.map_toArray, List.map_cons, List.map_nil]; rfl) ?_); intro Y vY Ye hY nY)
              | ((with_reducible refine at_slot 50 ?_); (refine arm_append (K := kS) (o := ⟨some 50, _, _, _, _, _⟩) rfl fS _ _ rfl (w.heap.size) (mp) _ mc (st) HN.out rfl (own9.below nY.below) (some ⟨Y, 0, none⟩) 1 1 ([c]) rfl rfl (At.row fS (allOk_cons KC.out allOk_nil) hY (List.append_nil _).symm) (by simp) (by have := HN.out; simp only [List.length_cons, List.length_nil]; omega) (by have := bel9.size; have := nY.size; omega) ?_); intro mp2 mc2 vZ hO hBZ hkp hat))
            have belZ : Below w.heap.size w vZ := (below_step bel9 bel9.size nY.below).trans hBZ
            have hlen : (st ++ [c]).length = n + 1 := by rw [HN.out, List.length_append, List.length_cons, List.length_nil]
            clear own9 bel9 rN Ye hY nY hBZ hkp hat
            go_roundw
            case rel => exact ⟨⟨k + 1, mp2, mc2, st ++ [c], by omega, by go_num, by simp, hO, by omega, by omega, HG.out⟩, belZ⟩
            case measure => simp [intOf]; omega
          · have hz1 : (z == 0) = false := beq_eq_false_iff_ne.2 hz
            have hz2 : (z != 0) = true := bne_iff_ne.2 hz
            clear HGO HJ2
            go_wp2_with fail
            go_roundw
            case rel => exact ⟨⟨k + 1, mp, mc, st, by omega, by go_num, by rw [HN.out], own9, by have := HN.out; omega, by have := HN.out; omega, HL.out⟩, bel9⟩
            case measure => simp [intOf]; omega
      · obtain rfl : k = l.length := by omega
        obtain ⟨n, hn⟩ : ∃ n, n = st.length := ⟨_, rfl⟩
        have HN := Lib.hid hn
        have ik : ¬ ((l.length : Int) < (l.length : Int)) := by omega
        have hcap := hown.cap
        have HL := Lib.hid hline
        have CT : Hid (∀ k, k < n → ∀ p qc w0, At kS w0 p (st.take (k + 1)) → w0.rangeAt 0 0 (u32s ks) → Calls Tryd.prog 11 #[.slice p (k + 1) qc] w0 fun e w' => e = .returned (.tuple #[.int .i64 ((k : Int) + 1), .int .i64 0]) ∧ Below w0.heap.size w0 w') := Lib.hid fun k hkn p qc w0 h hk => by
          have hl : (st.take (k + 1)).length = k + 1 := by rw [List.length_take]; omega
          have c := line_any (st.take (k + 1)) p qc w0 h (hline.take _).head (by omega) hk
          rw [lineF_all (hline.take _).line, hl] at c
          exact c
        have CD : Hid (∀ k, k < n → ∀ p qc w0, At kS w0 p (st.drop k) → w0.rangeAt 0 0 (u32s ks) → Calls Tryd.prog 11 #[.slice p (n - k) qc] w0 fun e w' => e = .returned (.tuple #[.int .i64 ((n - k : Nat) : Int), .int .i64 0]) ∧ Below w0.heap.size w0 w') := Lib.hid fun k hkn p qc w0 h hk => by
          have hl : (st.drop k).length = n - k := by rw [List.length_drop, hn]
          have c := line_any (st.drop k) p qc w0 h (hline.drop _).head (by omega) hk
          rw [lineF_all (hline.drop _).line, hl] at c
          exact c
        rw [← hn] at hpos hle hcap ⊢
        have hle2 : n ≤ 41 := by omega
        clear hline hn hk hlt hle
        go_wp2_with fail
        have h1 : LmRel w st mp mc (.int .i64 0) wr := ⟨⟨0, by omega, rfl, hown⟩, bel⟩
        clear hown bel
        go_loopw [54] (fun i wq => LmRel w st mp mc i wq) (fun i _ => n - (intOf i).toNat)
        case atStart => exact h1
        case round =>
          clear h1
          obtain ⟨⟨k, hk, rfl, hown⟩, bel⟩ := hrel
          rw [← HN.out] at hk
          by_cases hlt : k < n
          · have ik : (k : Int) < (n : Int) := by omega
            have HK2 : Hid (IntKind.i64.wrap ((n : Int) - (k : Int)) = ((n - k : Nat) : Int)) := Lib.hid (by rw [IntKind.wrap_i64]; omega)
            have HKI : Hid ((k : Int) + 1 = ((k + 1 : Nat) : Int)) := Lib.hid (by omega)
            go_wp2_with (first
              | ((with_reducible refine at_slot 61 ?_); (refine arm_want (.slice mp (k + 1) mc) 61 rfl (by kernel_rfl) (run_op_head fS _ _ rfl mp n mc rfl .i64 _ rfl (k + 1) HKI.out (by omega) _) ?_)))
            refine (CT.out k hlt mp mc _ ((hown.at fS).take _) (HKW.out _ bel)).mono ?_
            rintro e y201 ⟨rfl, hB⟩
            have hown201 := hown.below hB
            have bel201 : Below w.heap.size w y201 := below_step bel bel.size hB
            clear hB hown bel
            go_wp2_with (first
              | ((with_reducible refine at_slot 68 ?_); (refine arm_want (.slice (onN mp k 363 mc) (n - k) (mc - k)) 68 rfl (by kernel_rfl) (run_op_tail fS _ _ rfl mp n mc rfl .i64 _ rfl k rfl (by omega) _) ?_)))
            refine (CD.out k hlt (onN mp k 363 mc) (mc - k) _ ((hown201.at fS).tail k (by rw [← HN.out]; exact hcap)) (HKW.out _ bel201)).mono ?_
            rintro e y202 ⟨rfl, hB⟩
            have hown202 := hown201.below hB
            have bel202 : Below w.heap.size w y202 := below_step bel201 bel201.size hB
            clear hB hown201 bel201
            go_wp2_with (first
              | ((with_reducible refine at_slot 85 ?_); (refine arm_want (.int .i64 ((n - k : Nat) : Int)) 85 rfl (by kernel_rfl) (run_op_sub64 _ _ _ _ rfl _ _ _ rfl rfl HK2.out _) ?_))
              | ((with_reducible refine at_slot 86 ?_); (refine arm_want (.bool false) 86 rfl (by kernel_rfl) (cmp_neq _ _ .i64 (by kernel_rfl) _ _ rfl .i64 ((n - k : Nat) : Int) ((n - k : Nat) : Int) rfl rfl false (decide_eq_true rfl) _) ?_)))
            go_roundw
            case rel => exact ⟨⟨k + 1, by have := HN.out; omega, by go_num, hown202⟩, bel202⟩
            case measure => simp [intOf]; omega
          · obtain rfl : k = n := by omega
            have ik : ¬ ((k : Int) < (k : Int)) := by omega
            clear CT CD hk hlt
            by_cases ho1 : out < 1
            · have hd1 : decide (out < 1) = true := decide_eq_true ho1
              go_wp2_with fail
              go_ret
              exact ⟨rfl, bel⟩
            obtain ⟨m, rfl⟩ : ∃ m : Nat, out = (m : Int) := ⟨out.toNat, by omega⟩
            have hd1 : decide ((m : Int) < 1) = false := decide_eq_false ho1
            have HK1 : Hid (IntKind.i64.wrap ((k : Int) - 1) = ((k - 1 : Nat) : Int)) := Lib.hid (by rw [IntKind.wrap_i64]; omega)
            by_cases ho2 : k - 1 ≤ m
            · have hd2 : decide (((k - 1 : Nat) : Int) ≤ (m : Int)) = true := decide_eq_true (by omega)
              go_wp2_with (first
                | ((with_reducible refine at_slot 99 ?_); (refine arm_want (.int .i64 ((k - 1 : Nat) : Int)) 99 rfl (by kernel_rfl) (run_op_sub64 _ _ _ _ rfl _ _ _ rfl rfl HK1.out _) ?_))
                | ((with_reducible refine at_slot 100 ?_); (refine arm_want (.bool true) 100 rfl (by kernel_rfl) (cmp_geq _ _ _ _ rfl .i64 (m : Int) ((k - 1 : Nat) : Int) rfl rfl true hd2 _) ?_)))
              go_ret
              exact ⟨rfl, bel⟩
            · have hd2 : decide (((k - 1 : Nat) : Int) ≤ (m : Int)) = false := decide_eq_false (by omega)
              have hm1 : 1 ≤ m := by omega
              have hm2 : m + 1 < k := by omega
              have hlt1 : (st.take m).length = m := by have := HN.out; rw [List.length_take]; omega
              have hlt2 : (st.drop (m + 1)).length = k - (m + 1) := by rw [List.length_drop, HN.out]
              obtain ⟨e, he, hle⟩ := lineF_out HL.out.line hm1 (by rw [← HN.out]; exact hm2)
              have HE := Lib.hid he
              obtain ⟨ll, hll⟩ : ∃ ll, ll = (st.take m ++ st.drop (m + 1)).length := ⟨_, rfl⟩
              have HLL := Lib.hid hll
              have CL : Hid (∀ p qc w0, At kS w0 p (st.take m ++ st.drop (m + 1)) → w0.rangeAt 0 0 (u32s ks) → Calls Tryd.prog 11 #[.slice p ll qc] w0 fun e0 w' => e0 = .returned (.tuple #[.int .i64 (m : Int), .int .i64 e]) ∧ Below w0.heap.size w0 w') := Lib.hid fun p qc w0 h hk => by
                have c := line_any _ p qc w0 h (less_right HL.out) (by rw [List.length_append, hlt1, hlt2]; omega) hk
                rw [hle, ← hll] at c
                exact c
              have HM1 : Hid (IntKind.i64.wrap ((m : Int) + 1) = ((m + 1 : Nat) : Int)) := Lib.hid (by rw [IntKind.wrap_i64]; omega)
              have HB := Lib.hid bel
              clear he hle HL ho1 ho2 hll
              go_wp2_with (first
                | ((with_reducible refine at_slot 99 ?_); (refine arm_want (.int .i64 ((k - 1 : Nat) : Int)) 99 rfl (by kernel_rfl) (run_op_sub64 _ _ _ _ rfl _ _ _ rfl rfl HK1.out _) ?_))
                | ((with_reducible refine at_slot 100 ?_); (refine arm_want (.bool false) 100 rfl (by kernel_rfl) (cmp_geq _ _ _ _ rfl .i64 (m : Int) ((k - 1 : Nat) : Int) rfl rfl false hd2 _) ?_)))
              go_cut [17] (fun v wx => ∃ p2 c2, v = .slice p2 ll c2 ∧ Sl.Own kS wx w.heap.size p2 c2 (st.take m ++ st.drop (m + 1)) ∧ Below w.heap.size w wx)
              case first =>
                refine wp_region_held (S := fun _ => True) (by kernel_rfl) ?_
                change wpAnyH _ _ _ _ _ _ _ _ wr.drew
                have hat : At kS wr.drew mp st := (hown.at fS).below (Below.refl wr.heap.size wr).drew
                have hge : ∀ g, bk mp = some g → g < wr.drew.heap.size := fun g e => (hown.ge e).2
                have belz : Below w.heap.size w wr.drew := bel.trans ((Below.refl _ _).drew)
                clear hown bel HB
                generalize wr.drew = wz at hat hge belz ⊢
                refine h_take 1 (.slice mp k mc) rfl 103 rfl (by kernel_rfl) (by kernel_rfl) (by kernel_rfl) (by kernel_rfl) (fun _ _ _ h => h) (fun w' _ => by kernel_rfl) trivial ?_
                simp only [Act.put, List.setIfInBounds_toArray, List.set_cons_zero, List.set_cons_succ]
                refine h_take 2 (.int .i64 (m : Int)) rfl 104 rfl (by kernel_rfl) (by kernel_rfl) (by kernel_rfl) (by kernel_rfl) (fun _ _ _ h => h) (fun w' _ => by kernel_rfl) trivial ?_
                simp only [Act.put, List.setIfInBounds_toArray, List.set_cons_zero, List.set_cons_succ]
                refine h_take 3 (.slice mp m mc) rfl 105 rfl (by kernel_rfl) (by kernel_rfl) (by kernel_rfl) (by kernel_rfl) (fun _ _ _ h => h) (fun w' _ => run_op_head fS _ _ rfl mp k mc rfl .i64 _ rfl m rfl (by omega) w') trivial ?_
                simp only [Act.put, List.setIfInBounds_toArray, List.set_cons_zero, List.set_cons_succ]
                refine h_take 5 (.slice mp k mc) rfl 107 rfl (by kernel_rfl) (by kernel_rfl) (by kernel_rfl) (by kernel_rfl) (fun _ _ _ h => h) (fun w' _ => by kernel_rfl) trivial ?_
                simp only [Act.put, List.setIfInBounds_toArray, List.set_cons_zero, List.set_cons_succ]
                refine h_take 6 (.int .i64 (m : Int)) rfl 108 rfl (by kernel_rfl) (by kernel_rfl) (by kernel_rfl) (by kernel_rfl) (fun _ _ _ h => h) (fun w' _ => by kernel_rfl) trivial ?_
                simp only [Act.put, List.setIfInBounds_toArray, List.set_cons_zero, List.set_cons_succ]
                refine h_take 7 (.int .i64 ((m + 1 : Nat) : Int)) rfl 109 rfl (by kernel_rfl) (by kernel_rfl) (by kernel_rfl) (by kernel_rfl) (fun _ _ _ h => h) (fun w' _ => run_op_add64 _ _ _ _ rfl _ _ _ rfl rfl HM1.out w') trivial ?_
                simp only [Act.put, List.setIfInBounds_toArray, List.set_cons_zero, List.set_cons_succ]
                refine h_take 8 (.slice (onN mp (m + 1) 363 mc) (k - (m + 1)) (mc - (m + 1))) rfl 110 rfl (by kernel_rfl) (by kernel_rfl) (by kernel_rfl) (by kernel_rfl) (fun _ _ _ h => h) (fun w' _ => run_op_tail fS _ _ rfl mp k mc rfl .i64 _ rfl (m + 1) rfl (by omega) w') trivial ?_
                simp only [Act.put, List.setIfInBounds_toArray, List.set_cons_zero, List.set_cons_succ]
                refine h_one (i := 0) (by kernel_rfl) (o_value _ rfl 102 rfl (by kernel_rfl) (run_op_lit fS [] allOk_nil (by simp) _ _ rfl rfl (by simp only [List.map_toArray, List.map_nil]; rfl)) ?_)
                have hN := new_alloc wz (.cells (kS.all []).toArray kS.t)
                have rL : Row (wz.alloc (.cells (kS.all []).toArray kS.t)) wz.heap.size kS.t (kS.all []) := heap_alloc_new _ _
                have own1 : Sl.Own kS (wz.alloc (.cells (kS.all []).toArray kS.t)) w.heap.size (some ⟨wz.heap.size, 0, none⟩) 0 [] := Sl.Own.row fS allOk_nil belz.size (by simp) rL
                generalize wz.alloc (.cells (kS.all []).toArray kS.t) = y1 at hN rL own1 ⊢
                have bel1 : Below w.heap.size w y1 := below_step belz belz.size hN.below
                have at1 : At kS y1 mp st := hat.below hN.below
                have hge1 : ∀ g, bk mp = some g → g < y1.heap.size ∧ g ≠ wz.heap.size := fun g e => ⟨by have := hge g e; have := hN.size; omega, by have := hge g e; omega⟩
                clear hN rL belz hat hge
                refine ⟨trivial, ?_⟩
                generalize wz.heap.size = L at own1 hge1 ⊢
                simp only [Act.put, List.setIfInBounds_toArray, List.set_cons_zero, List.set_cons_succ]
                refine h_one (i := 4) (by kernel_rfl) (o_append rfl 106 rfl (by kernel_rfl) fS _ _ rfl w.heap.size (some ⟨L, 0, none⟩) 0 0 [] rfl rfl own1 mp m mc (st.take m) rfl hlt1.symm (at1.take m) (by omega) (by simp; omega) bel1.size ?_)
                intro p2 c2 y2 own2 hb2 hk2 hat2
                have bel2 : Below w.heap.size w y2 := bel1.trans hb2
                have at2 : At kS y2 mp st := at1.block hb2.size fun g o e hg => hk2.out g hg (fun e2 => (hge1 g (by rw [e]; rfl)).2 (Option.some.inj e2).symm)
                refine ⟨trivial, ?_⟩
                simp only [Act.put, List.setIfInBounds_toArray, List.set_cons_zero, List.set_cons_succ]
                rw [List.nil_append] at own2 ⊢
                refine h_one (i := 9) (by kernel_rfl) (o_append rfl 111 rfl (by kernel_rfl) fS _ _ rfl w.heap.size p2 (st.take m).length c2 (st.take m) rfl rfl own2 (onN mp (m + 1) 363 mc) (k - (m + 1)) (mc - (m + 1)) (st.drop (m + 1)) rfl hlt2.symm (at2.tail (m + 1) (by rw [← HN.out]; exact hcap)) (by omega) (by omega) bel2.size ?_)
                intro p3 c3 y3 own3 hb3 hk3 hat3
                have bel3 : Below w.heap.size w y3 := bel2.trans hb3
                refine ⟨trivial, ?_⟩
                simp only [Act.put, List.setIfInBounds_toArray, List.set_cons_zero, List.set_cons_succ]
                refine h_take 10 (.slice p3 (st.take m ++ st.drop (m + 1)).length c3) rfl 17 rfl (by kernel_rfl) (by kernel_rfl) (by kernel_rfl) (by kernel_rfl) (fun _ _ _ h => h) (fun w' _ => by kernel_rfl) trivial ?_
                simp only [Act.put, List.setIfInBounds_toArray, List.set_cons_zero, List.set_cons_succ]
                refine wpAnyH_done (by kernel_rfl) ?_ _
                go_wp2_with fail
                go_meet
                exact ⟨p3, c3, by rw [HLL.out], own3, bel3⟩
              case rest =>
                obtain ⟨p2, c2, rfl, own2, bel2⟩ := hcut
                clear hown bel HB
                go_wp2_with fail
                refine (CL.out p2 c2 _ (own2.at fS) (HKW.out _ bel2)).mono ?_
                rintro e y301 ⟨rfl, hB⟩
                have bel301 : Below w.heap.size w y301 := below_step bel2 bel2.size hB
                clear hB bel2
                have he1 : (e == 0) = false := beq_eq_false_iff_ne.2 HE.out
                have he2 : (e != 0) = true := bne_iff_ne.2 HE.out
                have he3 : ¬ e = 0 := HE.out
                go_wp2_with (first
                  | ((with_reducible refine at_slot 119 ?_); (refine arm_want (.bool true) 119 rfl (by kernel_rfl) (cmp_eql _ _ .i64 (by kernel_rfl) _ _ rfl .i64 (m : Int) (m : Int) rfl rfl true (decide_eq_true rfl) _) ?_))
                  | ((with_reducible refine at_slot 122 ?_); (refine arm_want (.bool true) 122 rfl (by kernel_rfl) (cmp_neq _ _ .i64 (by kernel_rfl) _ _ rfl .i64 e 0 rfl rfl true (decide_eq_false HE.out) _) ?_)))
                go_ret
                exact ⟨rfl, bel301⟩
end Go.Proofs.YtphbpndjebfacaaDoor.Lk
