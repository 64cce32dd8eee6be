/-
  The contracts of package epoch: what puts a block behind a pair, First and Follow. Over this seat's translation.
-/
import Derived.Test.YtijpgncecfgfdaaDoorEpoLeaf
namespace Go.Proofs.YtijpgncecfgfdaaDoor.Ep
open Go.ChangeShapes Go.WideShapes Go.ChangeAt Go.RowKit Go.Proofs.YtijpgncecfgfdaaDoor.Mem Go.Proofs.YtijpgncecfgfdaaDoor.Bt Go.Proofs.YtijpgncecfgfdaaDoor.Sha Go.Proofs.YtijpgncecfgfdaaDoor.Tg
set_option linter.unusedVariables false
set_option linter.unusedSimpArgs false

/-- What Next is behind a block; with a draw that counts, where its slot is locking. -/
def made (d : Dat) (b : Blk) : Dat := if b.fro / 24 < b.to / 24 then turnD d b else moreD d
def lockd (d : Dat) (b : Blk) : Dat := if b.to % 24 < 16 then lockD d b else d
/-- Whether the Length would not fit. -/
def overs (d : Dat) (b : Blk) : Prop := ¬ b.fro / 24 < b.to / 24 ∧ d.len = 4294967295
instance (d : Dat) (b : Blk) : Decidable (overs d b) := by unfold overs; exact inferInstance
def nextF (d : Dat) (b : Blk) : Dat := lockd (made d b) b
def nowF (c d : Dat) (b : Blk) : Dat := if b.fro / 24 < b.to / 24 then d else c
theorem fitP {a c : Dat} (k : a.Ok) (l : c.Ok) : 0 + (pcs a c).length ≤ (pcs zd zd).length := by rw [pcs_len k l, pcs_len zd_ok zd_ok]; omega
theorem allP {a c : Dat} (k : a.Ok) (l : c.Ok) : lay (pcs zd zd) 0 (pcs a c) = pcs a c := lay_all _ _ (by rw [pcs_len k l, pcs_len zd_ok zd_ok])
theorem fitD {a : Dat} (k : a.Ok) : 0 + (dcs a).length ≤ (dcs zd).length := by rw [dcs_len k, dcs_len zd_ok]; omega
theorem allD {a : Dat} (k : a.Ok) : lay (dcs zd) 0 (dcs a) = dcs a := lay_all _ _ (by rw [dcs_len k, dcs_len zd_ok])
theorem made_ok {d : Dat} {b : Blk} (k : d.Ok) (j : b.Ok) (h : ¬ overs d b) : (made d b).Ok := by
  unfold made
  split
  · exact turn_ok k j
  · rename_i hn
    have := k.len
    exact more_ok k (by unfold overs at h; omega)
theorem lockd_ok {d : Dat} {b : Blk} (k : d.Ok) (j : b.Ok) : (lockd d b).Ok := by
  unfold lockd
  split
  · exact lock_ok k j
  · exact k
theorem next_ok {d : Dat} {b : Blk} (k : d.Ok) (j : b.Ok) (h : ¬ overs d b) : (nextF d b).Ok := lockd_ok (made_ok k j h) j
theorem now_ok {c d : Dat} {b : Blk} (l : c.Ok) (k : d.Ok) : (nowF c d b).Ok := by
  unfold nowF
  split
  · exact k
  · exact l
theorem made_yes {c d : Dat} {b : Blk} (h : b.fro / 24 < b.to / 24) : made d b = turnD d b ∧ nowF c d b = d := by unfold made nowF; rw [if_pos h, if_pos h]; exact ⟨rfl, rfl⟩
theorem made_no {c d : Dat} {b : Blk} (h : ¬ b.fro / 24 < b.to / 24) : made d b = moreD d ∧ nowF c d b = c := by unfold made nowF; rw [if_neg h, if_neg h]; exact ⟨rfl, rfl⟩
theorem lockd_yes {d : Dat} {b : Blk} (h : b.to % 24 < 16) : lockd d b = lockD d b := by unfold lockd; rw [if_pos h]
theorem lockd_no {d : Dat} {b : Blk} (h : ¬ b.to % 24 < 16) : lockd d b = d := by unfold lockd; rw [if_neg h]
set_option maxHeartbeats 4000000 in
set_option maxRecDepth 100000 in
theorem put_turn (M : Nat) (dd cc : Dat) (b : Blk) (w : World) (hr : Row w M 60 (pcs dd cc)) (k : dd.Ok) (l : cc.Ok) (j : b.Ok) (hk : w.rangeAt 1 0 (u32s ks)) (hMk : M ≠ 1) (ht : b.fro / 24 < b.to / 24) :
    Calls Tryd.prog 18 #[.pointer (some ⟨M, 0, none⟩), .agg (bcs b).toArray] w fun e w' => e = .returned (.int .i64 0) ∧ Row w' M 60 (pcs (nextF dd b) (nowF cc dd b)) ∧ Only M w w' := by
  have HMD := Lib.hid (made_yes (c := cc) (d := dd) ht).1
  have HNW := Lib.hid (made_yes (c := cc) (d := dd) ht).2
  have KN := Lib.hid (turn_ok k j)
  have L1 := Lib.hid (lay_next k l k)
  have G1 := Lib.hid (show 129 + (dcs dd).length ≤ (pcs dd cc).length by rw [pcs_len k l, dcs_len k]; omega)
  have J := Lib.hid j; have K := Lib.hid k; have KC := Lib.hid l
  have HK := Lib.hid hk
  have hk1 : 1 < w.heap.size := range_lt hk (by simp [u32s, ks])
  have CT := fun w0 => Lib.hid (Slot.turnsB_any b.fro b.to w0 j.fro j.to)
  rw [decide_eq_true ht] at CT
  clear k l j hk ht
  go_enter Tryd.func18, Tryd.ntmps18
  go_wp2_with (first
    | ((with_reducible refine at_slot 3 ?_); (refine arm_box (o := ⟨some 3, _, _, _, _, _⟩) rfl _ _ rfl (bcs b) rfl ?_); intro X w1 Xe hw1 nw1; have c0 := hw1.cell (b_fro (Has.refl (bcs b))).get; have c1 := hw1.cell (show Has (bcs b) 1 [num32 b.to] from b_to (Has.refl (bcs b))).get; simp only [num32] at c0 c1))
  have e1 := Xe.out
  have hXM : X ≠ M := by have := hr.lt; omega
  have rM1 := hr.old nw1.below
  have rX1 := hw1
  have o1 : Only M w w1 := Only.of_below M nw1.below
  clear e1 Xe nw1 hr hw1
  refine (CT _).out.mono ?_
  rintro e y1 ⟨rfl, hB1⟩
  have rM2 := rM1.old hB1; have rX2 := rX1.old hB1
  have o2 : Only M w y1 := o1.trans (Only.of_below M hB1)
  clear hB1 c0 c1 rM1 rX1 o1 CT
  go_wp2_with (first
    | ((with_reducible refine at_slot 15 ?_); (refine arm_load (o := ⟨some 15, _, _, _, _, _⟩) rfl _ _ rfl M 0 rfl (dcs dd) ((p_now (Has.refl (pcs dd cc))).range rM2) (sz_dat K.out) ?_))
    | ((with_reducible refine arm_store (o := ⟨none, _, _, _, _, _⟩) rfl _ _ _ rfl M 129 rfl (dcs dd) rfl _ _ (rM2) G1.out (dcs_one _) (sz_dat K.out) ?_); intro w3 hw3 ow3 sw3))
  have rM3 := hw3.congr L1.out; have rX3 := rX2.only ow3 hXM; have o3 := o2.trans ow3
  clear hw3 ow3 sw3 rM2 rX2 o2 L1 G1
  refine wp_region_held (S := fun w' => Row w' X 30 (bcs b)) (by kernel_rfl) ?_
  change wpAnyH _ _ _ _ _ _ _ _ w3.drew
  have rMz : Row w3.drew M 60 (pcs dd dd) := rM3
  have rXz : Row w3.drew X 30 (bcs b) := rX3
  have oz : Only M w w3.drew := o3.trans (Only.drewN M w3 1)
  generalize w3.drew = wz at rMz rXz oz ⊢
  have hS : (fun w' => Row w' X 30 (bcs b)) wz := rXz
  refine h_take 0 (.pointer (some ⟨M, 0, none⟩)) rfl 18 rfl (by kernel_rfl) (by kernel_rfl) (by kernel_rfl) (by kernel_rfl) (fun _ _ _ h => h) (fun w' _ => by kernel_rfl) hS ?_
  simp only [Act.put, List.setIfInBounds_toArray, List.set_cons_zero, List.set_cons_succ]
  refine h_take 1 (.pointer (some ⟨M, 0, none⟩)) rfl 19 rfl (by kernel_rfl) (by kernel_rfl) (by kernel_rfl) (by kernel_rfl) (fun _ _ _ h => h) (fun w' _ => by kernel_rfl) hS ?_
  simp only [Act.put, List.setIfInBounds_toArray, List.set_cons_zero, List.set_cons_succ]
  refine h_take 2 (.pointer (some ⟨M, 0, none⟩)) rfl 20 rfl (by kernel_rfl) (by kernel_rfl) (by kernel_rfl) (by kernel_rfl) (fun _ _ _ h => h) (fun w' _ => by kernel_rfl) hS ?_
  simp only [Act.put, List.setIfInBounds_toArray, List.set_cons_zero, List.set_cons_succ]
  refine h_take 3 (.agg (bcs b).toArray) rfl 21 rfl (by kernel_rfl) (by kernel_rfl) (by kernel_rfl) (by kernel_rfl) (fun _ _ _ h => h) (fun w' h => run_op_load _ _ rfl X 0 rfl (bcs b) ((Has.refl _).range h) (sz_blk J.out)) hS ?_
  simp only [Act.put, List.setIfInBounds_toArray, List.set_cons_zero, List.set_cons_succ]
  refine h_one (i := 4) (by kernel_rfl) (o_call rfl 22 rfl (by kernel_rfl) (run_op_call 23 _ _ rfl #[.pointer (some ⟨M, 0, none⟩), .agg (bcs b).toArray] (by simp only [List.map_toArray, List.map_cons, List.map_nil]; rfl) Tryd.func23 (by kernel_rfl) (by kernel_rfl) _) (begin_any M 60 dd (dcs dd) b _ rMz K.out J.out) ?_)
  rintro e y ⟨rfl, hRy, hOy⟩
  refine ⟨_, rfl, rXz.only hOy hXM, ?_⟩
  simp only [Act.put, List.setIfInBounds_toArray, List.set_cons_zero, List.set_cons_succ]
  refine wpAnyH_done (by kernel_rfl) ?_ _
  clear hS
  have rM4 := hRy; have rX4 := rXz.only hOy hXM; have o4 := oz.trans hOy
  clear hRy hOy oz rMz rXz
  have c1 := rX4.cell (show Has (bcs b) 1 [num32 b.to] from b_to (Has.refl (bcs b))).get
  simp only [num32] at c1
  go_wp2_with fail
  refine (Slot.lockingB_any b.to _ J.out.to).mono ?_
  rintro e yl ⟨rfl, hBl⟩
  have rMl := rM4.old hBl; have rXl := rX4.old hBl
  have ol : Only M w yl := o4.trans (Only.of_below M hBl)
  clear hBl c1 rM4 rX4 o4
  by_cases hl : b.to % 24 < 16
  · have LD := Lib.hid (show nextF dd b = lockD (turnD dd b) b by unfold nextF; rw [HMD.out]; exact lockd_yes hl)
    rw [decide_eq_true hl]
    clear hl
    go_wp2_with fail
    refine wp_region_held (S := fun w' => Row w' X 30 (bcs b)) (by kernel_rfl) ?_
    change wpAnyH _ _ _ _ _ _ _ _ yl.drew
    have rMz : Row yl.drew M 60 (pcs ((turnD dd b)) (dd)) := rMl
    have rXz : Row yl.drew X 30 (bcs b) := rXl
    have oz : Only M w yl.drew := ol.trans (Only.drewN M yl 1)
    generalize yl.drew = wz at rMz rXz oz ⊢
    have hS : (fun w' => Row w' X 30 (bcs b)) wz := rXz
    refine h_take 0 (.pointer (some ⟨M, 0, none⟩)) rfl 33 rfl (by kernel_rfl) (by kernel_rfl) (by kernel_rfl) (by kernel_rfl) (fun _ _ _ h => h) (fun w' _ => by kernel_rfl) hS ?_
    simp only [Act.put, List.setIfInBounds_toArray, List.set_cons_zero, List.set_cons_succ]
    refine h_take 1 (.pointer (some ⟨M, 0, none⟩)) rfl 34 rfl (by kernel_rfl) (by kernel_rfl) (by kernel_rfl) (by kernel_rfl) (fun _ _ _ h => h) (fun w' _ => by kernel_rfl) hS ?_
    simp only [Act.put, List.setIfInBounds_toArray, List.set_cons_zero, List.set_cons_succ]
    refine h_take 2 (.pointer (some ⟨M, 0, none⟩)) rfl 35 rfl (by kernel_rfl) (by kernel_rfl) (by kernel_rfl) (by kernel_rfl) (fun _ _ _ h => h) (fun w' _ => by kernel_rfl) hS ?_
    simp only [Act.put, List.setIfInBounds_toArray, List.set_cons_zero, List.set_cons_succ]
    refine h_take 3 (.agg (bcs b).toArray) rfl 36 rfl (by kernel_rfl) (by kernel_rfl) (by kernel_rfl) (by kernel_rfl) (fun _ _ _ h => h) (fun w' h => run_op_load _ _ rfl X 0 rfl (bcs b) ((Has.refl _).range h) (sz_blk J.out)) hS ?_
    simp only [Act.put, List.setIfInBounds_toArray, List.set_cons_zero, List.set_cons_succ]
    refine h_one (i := 4) (by kernel_rfl) (o_call rfl 37 rfl (by kernel_rfl) (run_op_call 26 _ _ rfl #[.pointer (some ⟨M, 0, none⟩), .agg (bcs b).toArray] (by simp only [List.map_toArray, List.map_cons, List.map_nil]; rfl) Tryd.func26 (by kernel_rfl) (by kernel_rfl) _) (lock_any M 60 ((turnD dd b)) (dcs (dd)) b _ rMz KN.out J.out (range_block HK.out (oz.block _ hk1 (Ne.symm hMk))) hMk) ?_)
    rintro e y ⟨rfl, hRy, hOy⟩
    refine ⟨_, rfl, rXz.only hOy hXM, ?_⟩
    simp only [Act.put, List.setIfInBounds_toArray, List.set_cons_zero, List.set_cons_succ]
    refine wpAnyH_done (by kernel_rfl) ?_ _
    clear hS
    have oy := oz.trans hOy
    clear hOy oz rMz rXz ol rMl rXl
    go_wp2_with fail
    go_ret
    exact ⟨rfl, by rw [LD.out, HNW.out]; exact hRy, oy⟩
  · have LD := Lib.hid (show nextF dd b = (turnD dd b) by unfold nextF; rw [HMD.out]; exact lockd_no hl)
    rw [decide_eq_false hl]
    clear hl
    go_wp2_with fail
    go_ret
    exact ⟨rfl, by rw [LD.out, HNW.out]; exact rMl, ol⟩
set_option maxHeartbeats 4000000 in
set_option maxRecDepth 100000 in
theorem put_more (M : Nat) (dd cc : Dat) (b : Blk) (w : World) (hr : Row w M 60 (pcs dd cc)) (k : dd.Ok) (l : cc.Ok) (j : b.Ok) (hk : w.rangeAt 1 0 (u32s ks)) (hMk : M ≠ 1) (ht : ¬ b.fro / 24 < b.to / 24) (hf : dd.len + 1 < 4294967296) :
    Calls Tryd.prog 18 #[.pointer (some ⟨M, 0, none⟩), .agg (bcs b).toArray] w fun e w' => e = .returned (.int .i64 0) ∧ Row w' M 60 (pcs (nextF dd b) (nowF cc dd b)) ∧ Only M w w' := by
  have HMD := Lib.hid (made_no (c := cc) (d := dd) ht).1
  have HNW := Lib.hid (made_no (c := cc) (d := dd) ht).2
  have KN := Lib.hid (more_ok k hf)
  have CL := fun w0 h => Lib.hid (lengthen_any M 60 dd (dcs cc) w0 h k hf)
  have J := Lib.hid j; have K := Lib.hid k; have KC := Lib.hid l
  have HK := Lib.hid hk
  have hk1 : 1 < w.heap.size := range_lt hk (by simp [u32s, ks])
  have CT := fun w0 => Lib.hid (Slot.turnsB_any b.fro b.to w0 j.fro j.to)
  rw [decide_eq_false ht] at CT
  clear k l j hk ht hf
  go_enter Tryd.func18, Tryd.ntmps18
  go_wp2_with (first
    | ((with_reducible refine at_slot 3 ?_); (refine arm_box (o := ⟨some 3, _, _, _, _, _⟩) rfl _ _ rfl (bcs b) rfl ?_); intro X w1 Xe hw1 nw1; have c0 := hw1.cell (b_fro (Has.refl (bcs b))).get; have c1 := hw1.cell (show Has (bcs b) 1 [num32 b.to] from b_to (Has.refl (bcs b))).get; simp only [num32] at c0 c1))
  have e1 := Xe.out
  have hXM : X ≠ M := by have := hr.lt; omega
  have rM1 := hr.old nw1.below
  have rX1 := hw1
  have o1 : Only M w w1 := Only.of_below M nw1.below
  clear e1 Xe nw1 hr hw1
  refine (CT _).out.mono ?_
  rintro e y1 ⟨rfl, hB1⟩
  have rM2 := rM1.old hB1; have rX2 := rX1.old hB1
  have o2 : Only M w y1 := o1.trans (Only.of_below M hB1)
  clear hB1 c0 c1 rM1 rX1 o1 CT
  go_wp2_with fail
  refine (CL _ rM2).out.mono ?_
  rintro e y2 ⟨rfl, hRy, hOy⟩
  have rM4 := hRy; have rX4 := rX2.only hOy hXM; have o4 := o2.trans hOy
  clear hRy hOy o2 rM2 rX2 CL
  have c1 := rX4.cell (show Has (bcs b) 1 [num32 b.to] from b_to (Has.refl (bcs b))).get
  simp only [num32] at c1
  go_wp2_with fail
  refine (Slot.lockingB_any b.to _ J.out.to).mono ?_
  rintro e yl ⟨rfl, hBl⟩
  have rMl := rM4.old hBl; have rXl := rX4.old hBl
  have ol : Only M w yl := o4.trans (Only.of_below M hBl)
  clear hBl c1 rM4 rX4 o4
  by_cases hl : b.to % 24 < 16
  · have LD := Lib.hid (show nextF dd b = lockD (moreD dd) b by unfold nextF; rw [HMD.out]; exact lockd_yes hl)
    rw [decide_eq_true hl]
    clear hl
    go_wp2_with fail
    refine wp_region_held (S := fun w' => Row w' X 30 (bcs b)) (by kernel_rfl) ?_
    change wpAnyH _ _ _ _ _ _ _ _ yl.drew
    have rMz : Row yl.drew M 60 (pcs ((moreD dd)) (cc)) := rMl
    have rXz : Row yl.drew X 30 (bcs b) := rXl
    have oz : Only M w yl.drew := ol.trans (Only.drewN M yl 1)
    generalize yl.drew = wz at rMz rXz oz ⊢
    have hS : (fun w' => Row w' X 30 (bcs b)) wz := rXz
    refine h_take 0 (.pointer (some ⟨M, 0, none⟩)) rfl 33 rfl (by kernel_rfl) (by kernel_rfl) (by kernel_rfl) (by kernel_rfl) (fun _ _ _ h => h) (fun w' _ => by kernel_rfl) hS ?_
    simp only [Act.put, List.setIfInBounds_toArray, List.set_cons_zero, List.set_cons_succ]
    refine h_take 1 (.pointer (some ⟨M, 0, none⟩)) rfl 34 rfl (by kernel_rfl) (by kernel_rfl) (by kernel_rfl) (by kernel_rfl) (fun _ _ _ h => h) (fun w' _ => by kernel_rfl) hS ?_
    simp only [Act.put, List.setIfInBounds_toArray, List.set_cons_zero, List.set_cons_succ]
    refine h_take 2 (.pointer (some ⟨M, 0, none⟩)) rfl 35 rfl (by kernel_rfl) (by kernel_rfl) (by kernel_rfl) (by kernel_rfl) (fun _ _ _ h => h) (fun w' _ => by kernel_rfl) hS ?_
    simp only [Act.put, List.setIfInBounds_toArray, List.set_cons_zero, List.set_cons_succ]
    refine h_take 3 (.agg (bcs b).toArray) rfl 36 rfl (by kernel_rfl) (by kernel_rfl) (by kernel_rfl) (by kernel_rfl) (fun _ _ _ h => h) (fun w' h => run_op_load _ _ rfl X 0 rfl (bcs b) ((Has.refl _).range h) (sz_blk J.out)) hS ?_
    simp only [Act.put, List.setIfInBounds_toArray, List.set_cons_zero, List.set_cons_succ]
    refine h_one (i := 4) (by kernel_rfl) (o_call rfl 37 rfl (by kernel_rfl) (run_op_call 26 _ _ rfl #[.pointer (some ⟨M, 0, none⟩), .agg (bcs b).toArray] (by simp only [List.map_toArray, List.map_cons, List.map_nil]; rfl) Tryd.func26 (by kernel_rfl) (by kernel_rfl) _) (lock_any M 60 ((moreD dd)) (dcs (cc)) b _ rMz KN.out J.out (range_block HK.out (oz.block _ hk1 (Ne.symm hMk))) hMk) ?_)
    rintro e y ⟨rfl, hRy, hOy⟩
    refine ⟨_, rfl, rXz.only hOy hXM, ?_⟩
    simp only [Act.put, List.setIfInBounds_toArray, List.set_cons_zero, List.set_cons_succ]
    refine wpAnyH_done (by kernel_rfl) ?_ _
    clear hS
    have oy := oz.trans hOy
    clear hOy oz rMz rXz ol rMl rXl
    go_wp2_with fail
    go_ret
    exact ⟨rfl, by rw [LD.out, HNW.out]; exact hRy, oy⟩
  · have LD := Lib.hid (show nextF dd b = (moreD dd) by unfold nextF; rw [HMD.out]; exact lockd_no hl)
    rw [decide_eq_false hl]
    clear hl
    go_wp2_with fail
    go_ret
    exact ⟨rfl, by rw [LD.out, HNW.out]; exact rMl, ol⟩
set_option maxHeartbeats 4000000 in
set_option maxRecDepth 100000 in
theorem put_over (M : Nat) (dd cc : Dat) (b : Blk) (w : World) (hr : Row w M 60 (pcs dd cc)) (k : dd.Ok) (j : b.Ok) (ht : ¬ b.fro / 24 < b.to / 24) (hf : dd.len = 4294967295) :
    Calls Tryd.prog 18 #[.pointer (some ⟨M, 0, none⟩), .agg (bcs b).toArray] w fun e w' => e = .returned (.int .i64 5) ∧ Only M w w' := by
  have CL := fun w0 h => Lib.hid (lengthen_over M 60 dd (dcs cc) w0 h k hf)
  have CT := fun w0 => Lib.hid (Slot.turnsB_any b.fro b.to w0 j.fro j.to)
  rw [decide_eq_false ht] at CT
  clear k j ht hf
  go_enter Tryd.func18, Tryd.ntmps18
  go_wp2_with (first
    | ((with_reducible refine at_slot 3 ?_); (refine arm_box (o := ⟨some 3, _, _, _, _, _⟩) rfl _ _ rfl (bcs b) rfl ?_); intro X w1 Xe hw1 nw1; have c0 := hw1.cell (b_fro (Has.refl (bcs b))).get; have c1 := hw1.cell (show Has (bcs b) 1 [num32 b.to] from b_to (Has.refl (bcs b))).get; simp only [num32] at c0 c1))
  have e1 := Xe.out
  have hXM : X ≠ M := by have := hr.lt; omega
  have rM1 := hr.old nw1.below
  have rX1 := hw1
  have o1 : Only M w w1 := Only.of_below M nw1.below
  clear e1 Xe nw1 hr hw1
  refine (CT _).out.mono ?_
  rintro e y1 ⟨rfl, hB1⟩
  have rM2 := rM1.old hB1
  have o2 : Only M w y1 := o1.trans (Only.of_below M hB1)
  clear hB1 c0 c1 rM1 o1 CT
  go_wp2_with fail
  refine (CL _ rM2).out.mono ?_
  rintro e y2 ⟨rfl, hRy, hOy⟩
  go_wp2_with fail
  go_ret
  exact ⟨rfl, o2.trans hOy⟩
set_option maxHeartbeats 4000000 in
set_option maxRecDepth 100000 in
theorem first_any (x : List Nat) (w : World) (k : H32 x) :
    Calls Tryd.prog 11 #[.agg (u8s x).toArray] w fun e w' => e = .returned (.agg (pcs ⟨x, zh, zh, zh, 1⟩ ⟨x, zh, zh, zh, 1⟩).toArray) ∧ Below w.heap.size w w' := by
  have K := Lib.hid k
  have KD := Lib.hid (show (Dat.mk x zh zh zh 1).Ok from ⟨k, zh_ok, zh_ok, zh_ok, (by decide : 1 < 4294967296)⟩)
  have B1 := Lib.hid (built_dat1 k)
  clear k
  generalize Dat.mk x zh zh zh 1 = d at KD B1 ⊢
  have B2 := Lib.hid (built_pair KD.out KD.out)
  go_enter Tryd.func11, Tryd.ntmps11
  go_wp2_with (first
    | ((with_reducible refine at_slot 1 ?_); (refine arm_box (o := ⟨some 1, _, _, _, _, _⟩) rfl _ _ rfl (u8s x) rfl ?_); intro X w1 Xe hw1 nw1)
    | ((with_reducible refine at_slot 2 ?_); (refine arm_alloc (o := ⟨some 2, _, _, _, _, _⟩) rfl _ rfl (pcs zd zd) z_pair ?_); intro R w2 Re hw2 nw2)
    | ((with_reducible refine at_slot 4 ?_); (refine arm_load (o := ⟨some 4, _, _, _, _, _⟩) rfl _ _ rfl X 0 rfl (u8s x) ((Has.refl _).range (hw1.old nw2.below)) (szH K.out) ?_))
    | ((with_reducible refine at_slot 5 ?_); (refine arm_build (o := ⟨some 5, _, _, _, _, _⟩) rfl _ _ rfl (dcs d) (by simp only [List.map_toArray, List.map_cons, List.map_nil]; exact B1.out) ?_))
    | ((with_reducible refine at_slot 3 ?_); (refine arm_alloc (o := ⟨some 3, _, _, _, _, _⟩) rfl _ rfl (dcs zd) z_dat ?_); intro V w3 Ve hw3 nw3)
    | ((with_reducible refine arm_store (o := ⟨none, _, _, _, _, _⟩) rfl _ _ _ rfl V 0 rfl (dcs d) rfl _ _ (hw3) (fitD KD.out) (dcs_one _) (sz_dat KD.out) ?_); intro w4 hw4 ow4 sw4)
    | ((with_reducible refine at_slot 6 ?_); (refine arm_load (o := ⟨some 6, _, _, _, _, _⟩) rfl _ _ rfl V 0 rfl (dcs d) ((Has.refl _).range (hw4.congr (allD KD.out))) (sz_dat KD.out) ?_))
    | ((with_reducible refine at_slot 7 ?_); (refine arm_load (o := ⟨some 7, _, _, _, _, _⟩) rfl _ _ rfl V 0 rfl (dcs d) ((Has.refl _).range (hw4.congr (allD KD.out))) (sz_dat KD.out) ?_))
    | ((with_reducible refine at_slot 8 ?_); (refine arm_build (o := ⟨some 8, _, _, _, _, _⟩) rfl _ _ rfl (pcs d d) (by simp only [List.map_toArray, List.map_cons, List.map_nil]; exact B2.out) ?_))
    | ((with_reducible refine arm_store (o := ⟨none, _, _, _, _, _⟩) rfl _ _ _ rfl R 0 rfl (pcs d d) rfl _ _ ((hw2.old nw3.below).only ow4 (by have := hw2.lt; have := Ve.out; omega)) (fitP KD.out KD.out) (pcs_one _ _) (sz_pair KD.out KD.out) ?_); intro w5 hw5 ow5 sw5))
  have e1 := Xe.out; have e2 := Re.out; have e3 := Ve.out
  have s1 := nw1.size; have s2 := nw2.size; have s3 := nw3.size; have s4 := sw4.out
  have lR : w.heap.size ≤ R := by omega
  have bel : Below w.heap.size w w4 := below_only (below_step (below_step nw1.below (by omega) nw2.below) (by omega) nw3.below) ow4 (by omega) (by omega)
  exact bodyPost_ret (v := .agg (pcs d d).toArray) (result_row (p := 2) (ty := 28) (u := 28) (by kernel_rfl) _ _ R _ rfl (hw5.congr (allP KD.out KD.out)) (sz_pair KD.out KD.out)) rfl ⟨rfl, below_only bel ow5 lR bel.size⟩
set_option maxHeartbeats 4000000 in
set_option maxRecDepth 100000 in
theorem follow_slot (cc dd : Dat) (b : Blk) (w : World) (l : cc.Ok) (k : dd.Ok) (j : b.Ok) (h : b.to ≤ b.fro) :
    Calls Tryd.prog 8 #[.agg (pcs cc dd).toArray, .agg (bcs b).toArray] w fun e w' => e = .returned (.tuple #[.agg (pcs zd zd).toArray, .int .i64 6]) ∧ Below w.heap.size w w' := by
  have hle : ((b.to : Nat) : Int) ≤ ((b.fro : Nat) : Int) := by omega
  have LP := Lib.hid (lay_all (pcs zd zd) (pcs zd zd) rfl)
  clear l k j h
  go_enter Tryd.func8, Tryd.ntmps8
  go_wp2_with (first
    | ((with_reducible refine at_slot 2 ?_); (refine arm_box (o := ⟨some 2, _, _, _, _, _⟩) rfl _ _ rfl (pcs cc dd) rfl ?_); intro Q w1 Qe hw1 nw1)
    | ((with_reducible refine at_slot 3 ?_); (refine arm_box (o := ⟨some 3, _, _, _, _, _⟩) rfl _ _ rfl (bcs b) rfl ?_); intro X w2 Xe hw2 nw2)
    | ((with_reducible refine at_slot 4 ?_); (refine arm_alloc (o := ⟨some 4, _, _, _, _, _⟩) rfl _ rfl (pcs zd zd) z_pair ?_); intro R w3 Re hw3 nw3; have c0 := (hw2.old nw3.below).cell (b_fro (Has.refl (bcs b))).get; have c1 := (hw2.old nw3.below).cell (show Has (bcs b) 1 [num32 b.to] from b_to (Has.refl (bcs b))).get; simp only [num32] at c0 c1)
    | ((with_reducible refine at_slot 13 ?_); (refine arm_build (o := ⟨some 13, _, _, _, _, _⟩) rfl _ _ rfl (pcs zd zd) built_pair0 ?_))
    | ((with_reducible refine arm_store (o := ⟨none, _, _, _, _, _⟩) rfl _ _ _ rfl R 0 rfl (pcs zd zd) rfl _ _ (hw3) (by rw [Nat.zero_add]; exact Nat.le_refl _) (pcs_one _ _) (sz_pair zd_ok zd_ok) ?_); intro w5 hw5 ow5 sw5))
  have e1 := Qe.out; have e2 := Xe.out; have e3 := Re.out
  have s1 := nw1.size; have s2 := nw2.size; have s3 := nw3.size
  have rQ := (hw1.old nw2.below).old nw3.below; have rX := hw2.old nw3.below; have rR := hw3
  have lR : w.heap.size ≤ R := by omega
  have bel : Below w.heap.size w w3 := below_step (below_step nw1.below (by omega) nw2.below) (by omega) nw3.below
  have zR : R < w3.heap.size := rR.lt
  clear e1 e2 e3 s1 s2 s3 Qe Xe Re hw1 nw1 hw2 nw2 hw3 nw3
  exact bodyPost_ret (v := .tuple #[.agg (pcs zd zd).toArray, .int .i64 6]) (result_row2 (p := 4) (u := 5) (ty := 28) (t := 28) (by kernel_rfl) _ _ R (pcs zd zd) (.int .i64 6) rfl rfl (hw5.congr LP.out) (sz_pair zd_ok zd_ok)) rfl ⟨rfl, below_only bel ow5 lR bel.size⟩
set_option maxHeartbeats 4000000 in
set_option maxRecDepth 100000 in
theorem follow_over (cc dd : Dat) (b : Blk) (w : World) (l : cc.Ok) (k : dd.Ok) (j : b.Ok) (h : b.fro < b.to) (ht : ¬ b.fro / 24 < b.to / 24) (hf : dd.len = 4294967295) :
    Calls Tryd.prog 8 #[.agg (pcs cc dd).toArray, .agg (bcs b).toArray] w fun e w' => e = .returned (.tuple #[.agg (pcs zd zd).toArray, .int .i64 5]) ∧ Below w.heap.size w w' := by
  have hle : ((b.fro : Nat) : Int) < ((b.to : Nat) : Int) := by omega
  have LP := Lib.hid (lay_all (pcs zd zd) (pcs zd zd) rfl)
  have CP := fun N w0 hr => Lib.hid (put_over N dd cc b w0 hr k j ht hf)
  have B1 := Lib.hid (built_maker k l)
  have G1 := Lib.hid (show 0 + (pcs dd cc).length ≤ (pcs zd zd).length by rw [pcs_len k l, pcs_len zd_ok zd_ok]; omega)
  have LM := Lib.hid (lay_all (pcs zd zd) (pcs dd cc) (by rw [pcs_len k l, pcs_len zd_ok zd_ok]))
  have K := Lib.hid k; have KC := Lib.hid l; have J := Lib.hid j
  clear l k j h ht hf
  go_enter Tryd.func8, Tryd.ntmps8
  go_wp2_with (first
    | ((with_reducible refine at_slot 2 ?_); (refine arm_box (o := ⟨some 2, _, _, _, _, _⟩) rfl _ _ rfl (pcs cc dd) rfl ?_); intro Q w1 Qe hw1 nw1)
    | ((with_reducible refine at_slot 3 ?_); (refine arm_box (o := ⟨some 3, _, _, _, _, _⟩) rfl _ _ rfl (bcs b) rfl ?_); intro X w2 Xe hw2 nw2)
    | ((with_reducible refine at_slot 4 ?_); (refine arm_alloc (o := ⟨some 4, _, _, _, _, _⟩) rfl _ rfl (pcs zd zd) z_pair ?_); intro R w3 Re hw3 nw3; have c0 := (hw2.old nw3.below).cell (b_fro (Has.refl (bcs b))).get; have c1 := (hw2.old nw3.below).cell (show Has (bcs b) 1 [num32 b.to] from b_to (Has.refl (bcs b))).get; simp only [num32] at c0 c1)
    | ((with_reducible refine at_slot 15 ?_); (refine arm_load (o := ⟨some 15, _, _, _, _, _⟩) rfl _ _ rfl Q 129 rfl (dcs dd) ((show Has (pcs cc dd) 129 (dcs dd) from p_next KC.out (Has.refl _)).range ((hw1.old nw2.below).old nw3.below)) (sz_dat K.out) ?_))
    | ((with_reducible refine at_slot 17 ?_); (refine arm_load (o := ⟨some 17, _, _, _, _, _⟩) rfl _ _ rfl Q 0 rfl (dcs cc) ((p_now (Has.refl (pcs cc dd))).range ((hw1.old nw2.below).old nw3.below)) (sz_dat KC.out) ?_))
    | ((with_reducible refine at_slot 18 ?_); (refine arm_build (o := ⟨some 18, _, _, _, _, _⟩) rfl _ _ rfl (pcs dd cc) (by simp only [List.map_toArray, List.map_cons, List.map_nil]; exact B1.out) ?_))
    | ((with_reducible refine at_slot 6 ?_); (refine arm_alloc (o := ⟨some 6, _, _, _, _, _⟩) rfl _ rfl (pcs zd zd) z_maker ?_); intro V w4 Ve hw4 nw4)
    | ((with_reducible refine arm_store (o := ⟨none, _, _, _, _, _⟩) rfl _ _ _ rfl V 0 rfl (pcs dd cc) rfl _ _ (hw4) G1.out (pcs_one _ _) (sz_maker K.out KC.out) ?_); intro w5 hw5 ow5 sw5)
    | ((with_reducible refine at_slot 19 ?_); (refine arm_load (o := ⟨some 19, _, _, _, _, _⟩) rfl _ _ rfl X 0 rfl (bcs b) ((Has.refl _).range (((hw2.old nw3.below).old nw4.below).only ow5 (by have := (hw2.old nw3.below).lt; have := Ve.out; omega))) (sz_blk J.out) ?_)))
  have e1 := Qe.out; have e2 := Xe.out; have e3 := Re.out
  have s1 := nw1.size; have s2 := nw2.size; have s3 := nw3.size
  have rQ := (hw1.old nw2.below).old nw3.below; have rX := hw2.old nw3.below; have rR := hw3
  have lR : w.heap.size ≤ R := by omega
  have bel : Below w.heap.size w w3 := below_step (below_step nw1.below (by omega) nw2.below) (by omega) nw3.below
  have zR : R < w3.heap.size := rR.lt
  clear e1 e2 e3 s1 s2 s3 Qe Xe Re hw1 nw1 hw2 nw2 hw3 nw3
  have e4 := Ve.out; have s4 := nw4.size; have s5 := sw5.out
  have rN := hw5.congr LM.out
  have hRN : R ≠ V := by omega
  have rR5 := (rR.old nw4.below).only ow5 hRN
  have lN : w.heap.size ≤ V := by have := bel.size; omega
  have bel5 : Below w.heap.size w w5 := below_only (below_step bel bel.size nw4.below) ow5 lN (by have := bel.size; omega)
  clear e4 s4 s5 Ve hw4 nw4 hw5 ow5 sw5 rQ rX rR zR B1 G1 LM c0 c1 bel
  refine (CP V _ rN).out.mono ?_
  rintro e w6 ⟨rfl, hO⟩
  have rR6 := rR5.only hO hRN
  have bel6 : Below w.heap.size w w6 := below_only bel5 hO lN bel5.size
  clear hO rN rR5 bel5 CP
  go_wp2_with (first
    | ((with_reducible refine at_slot 23 ?_); (refine arm_build (o := ⟨some 23, _, _, _, _, _⟩) rfl _ _ rfl (pcs zd zd) built_pair0 ?_))
    | ((with_reducible refine arm_store (o := ⟨none, _, _, _, _, _⟩) rfl _ _ _ rfl R 0 rfl (pcs zd zd) rfl _ _ (rR6) (by rw [Nat.zero_add]; exact Nat.le_refl _) (pcs_one _ _) (sz_pair zd_ok zd_ok) ?_); intro w7 hw7 ow7 sw7))
  exact bodyPost_ret (v := .tuple #[.agg (pcs zd zd).toArray, .int .i64 5]) (result_row2 (p := 4) (u := 5) (ty := 28) (t := 28) (by kernel_rfl) _ _ R (pcs zd zd) (.int .i64 5) rfl rfl (hw7.congr LP.out) (sz_pair zd_ok zd_ok)) rfl ⟨rfl, below_only bel6 ow7 lR bel6.size⟩
set_option maxHeartbeats 4000000 in
set_option maxRecDepth 100000 in
theorem follow_ok (cc dd : Dat) (b : Blk) (w : World) (l : cc.Ok) (k : dd.Ok) (j : b.Ok) (hk : w.rangeAt 1 0 (u32s ks)) (h : b.fro < b.to) (hn : ¬ overs dd b) :
    Calls Tryd.prog 8 #[.agg (pcs cc dd).toArray, .agg (bcs b).toArray] w fun e w' => e = .returned (.tuple #[.agg (pcs (nowF cc dd b) (nextF dd b)).toArray, .int .i64 0]) ∧ Below w.heap.size w w' := by
  have hle : ((b.fro : Nat) : Int) < ((b.to : Nat) : Int) := by omega
  have hk1 : 1 < w.heap.size := range_lt hk (by simp [u32s, ks])
  have KN := Lib.hid (next_ok k j hn)
  have KW := Lib.hid (now_ok (b := b) l k)
  have CP : Hid (∀ N w0, Row w0 N 60 (pcs dd cc) → w0.rangeAt 1 0 (u32s ks) → N ≠ 1 → Calls Tryd.prog 18 #[.pointer (some ⟨N, 0, none⟩), .agg (bcs b).toArray] w0 fun e w' => e = .returned (.int .i64 0) ∧ Row w' N 60 (pcs (nextF dd b) (nowF cc dd b)) ∧ Only N w0 w') := Lib.hid fun N w0 hr hk hM => by
    by_cases ht : b.fro / 24 < b.to / 24
    · exact put_turn N dd cc b w0 hr k l j hk hM ht
    · exact put_more N dd cc b w0 hr k l j hk hM ht (by have := k.len; unfold overs at hn; omega)
  have HK := Lib.hid hk
  have B1 := Lib.hid (built_maker k l)
  have G1 := Lib.hid (show 0 + (pcs dd cc).length ≤ (pcs zd zd).length by rw [pcs_len k l, pcs_len zd_ok zd_ok]; omega)
  have LM := Lib.hid (lay_all (pcs zd zd) (pcs dd cc) (by rw [pcs_len k l, pcs_len zd_ok zd_ok]))
  have K := Lib.hid k; have KC := Lib.hid l; have J := Lib.hid j
  clear l k j h hn hk
  generalize nextF dd b = ne at KN CP ⊢
  generalize nowF cc dd b = nw at KW CP ⊢
  have B2 := Lib.hid (built_pair KW.out KN.out)
  have G2 := Lib.hid (show 0 + (pcs nw ne).length ≤ (pcs zd zd).length by rw [pcs_len KW.out KN.out, pcs_len zd_ok zd_ok]; omega)
  have LP := Lib.hid (lay_all (pcs zd zd) (pcs nw ne) (by rw [pcs_len KW.out KN.out, pcs_len zd_ok zd_ok]))
  go_enter Tryd.func8, Tryd.ntmps8
  go_wp2_with (first
    | ((with_reducible refine at_slot 2 ?_); (refine arm_box (o := ⟨some 2, _, _, _, _, _⟩) rfl _ _ rfl (pcs cc dd) rfl ?_); intro Q w1 Qe hw1 nw1)
    | ((with_reducible refine at_slot 3 ?_); (refine arm_box (o := ⟨some 3, _, _, _, _, _⟩) rfl _ _ rfl (bcs b) rfl ?_); intro X w2 Xe hw2 nw2)
    | ((with_reducible refine at_slot 4 ?_); (refine arm_alloc (o := ⟨some 4, _, _, _, _, _⟩) rfl _ rfl (pcs zd zd) z_pair ?_); intro R w3 Re hw3 nw3; have c0 := (hw2.old nw3.below).cell (b_fro (Has.refl (bcs b))).get; have c1 := (hw2.old nw3.below).cell (show Has (bcs b) 1 [num32 b.to] from b_to (Has.refl (bcs b))).get; simp only [num32] at c0 c1)
    | ((with_reducible refine at_slot 15 ?_); (refine arm_load (o := ⟨some 15, _, _, _, _, _⟩) rfl _ _ rfl Q 129 rfl (dcs dd) ((show Has (pcs cc dd) 129 (dcs dd) from p_next KC.out (Has.refl _)).range ((hw1.old nw2.below).old nw3.below)) (sz_dat K.out) ?_))
    | ((with_reducible refine at_slot 17 ?_); (refine arm_load (o := ⟨some 17, _, _, _, _, _⟩) rfl _ _ rfl Q 0 rfl (dcs cc) ((p_now (Has.refl (pcs cc dd))).range ((hw1.old nw2.below).old nw3.below)) (sz_dat KC.out) ?_))
    | ((with_reducible refine at_slot 18 ?_); (refine arm_build (o := ⟨some 18, _, _, _, _, _⟩) rfl _ _ rfl (pcs dd cc) (by simp only [List.map_toArray, List.map_cons, List.map_nil]; exact B1.out) ?_))
    | ((with_reducible refine at_slot 6 ?_); (refine arm_alloc (o := ⟨some 6, _, _, _, _, _⟩) rfl _ rfl (pcs zd zd) z_maker ?_); intro V w4 Ve hw4 nw4)
    | ((with_reducible refine arm_store (o := ⟨none, _, _, _, _, _⟩) rfl _ _ _ rfl V 0 rfl (pcs dd cc) rfl _ _ (hw4) G1.out (pcs_one _ _) (sz_maker K.out KC.out) ?_); intro w5 hw5 ow5 sw5)
    | ((with_reducible refine at_slot 19 ?_); (refine arm_load (o := ⟨some 19, _, _, _, _, _⟩) rfl _ _ rfl X 0 rfl (bcs b) ((Has.refl _).range (((hw2.old nw3.below).old nw4.below).only ow5 (by have := (hw2.old nw3.below).lt; have := Ve.out; omega))) (sz_blk J.out) ?_)))
  have e1 := Qe.out; have e2 := Xe.out; have e3 := Re.out
  have s1 := nw1.size; have s2 := nw2.size; have s3 := nw3.size
  have rQ := (hw1.old nw2.below).old nw3.below; have rX := hw2.old nw3.below; have rR := hw3
  have lR : w.heap.size ≤ R := by omega
  have bel : Below w.heap.size w w3 := below_step (below_step nw1.below (by omega) nw2.below) (by omega) nw3.below
  have zR : R < w3.heap.size := rR.lt
  clear e1 e2 e3 s1 s2 s3 Qe Xe Re hw1 nw1 hw2 nw2 hw3 nw3
  have e4 := Ve.out; have s4 := nw4.size; have s5 := sw5.out
  have rN := hw5.congr LM.out
  have hRN : R ≠ V := by omega
  have rR5 := (rR.old nw4.below).only ow5 hRN
  have lN : w.heap.size ≤ V := by have := bel.size; omega
  have bel5 : Below w.heap.size w w5 := below_only (below_step bel bel.size nw4.below) ow5 lN (by have := bel.size; omega)
  clear e4 s4 s5 Ve hw4 nw4 hw5 ow5 sw5 rQ rX rR zR B1 G1 LM c0 c1 bel
  refine (CP.out V _ rN (range_block HK.out (bel5.block _ hk1)) (by omega)).mono ?_
  rintro e w6 ⟨rfl, rN6, hO⟩
  have rR6 := rR5.only hO hRN
  have bel6 : Below w.heap.size w w6 := below_only bel5 hO lN bel5.size
  clear hO rN rR5 bel5 CP
  go_wp2_with (first
    | ((with_reducible refine at_slot 26 ?_); (refine arm_load (o := ⟨some 26, _, _, _, _, _⟩) rfl _ _ rfl V 129 rfl (dcs nw) ((show Has (pcs ne nw) 129 (dcs nw) from p_next KN.out (Has.refl _)).range rN6) (sz_dat KW.out) ?_))
    | ((with_reducible refine at_slot 28 ?_); (refine arm_load (o := ⟨some 28, _, _, _, _, _⟩) rfl _ _ rfl V 0 rfl (dcs ne) ((p_now (Has.refl (pcs ne nw))).range rN6) (sz_dat KN.out) ?_))
    | ((with_reducible refine at_slot 29 ?_); (refine arm_build (o := ⟨some 29, _, _, _, _, _⟩) rfl _ _ rfl (pcs nw ne) (by simp only [List.map_toArray, List.map_cons, List.map_nil]; exact B2.out) ?_))
    | ((with_reducible refine arm_store (o := ⟨none, _, _, _, _, _⟩) rfl _ _ _ rfl R 0 rfl (pcs nw ne) rfl _ _ (rR6) G2.out (pcs_one _ _) (sz_pair KW.out KN.out) ?_); intro w7 hw7 ow7 sw7))
  exact bodyPost_ret (v := .tuple #[.agg (pcs nw ne).toArray, .int .i64 0]) (result_row2 (p := 4) (u := 5) (ty := 28) (t := 28) (by kernel_rfl) _ _ R (pcs nw ne) (.int .i64 0) rfl rfl (hw7.congr LP.out) (sz_pair KW.out KN.out)) rfl ⟨rfl, below_only bel6 ow7 lR bel6.size⟩
/-- What Follow answers. -/
def ansC (c d : Dat) (b : Blk) : Dat := if b.fro < b.to ∧ ¬ overs d b then nowF c d b else zd
def ansN (d : Dat) (b : Blk) : Dat := if b.fro < b.to ∧ ¬ overs d b then nextF d b else zd
def ansE (d : Dat) (b : Blk) : Int := if b.fro < b.to then (if overs d b then 5 else 0) else 6
theorem ansC_ok {c d : Dat} {b : Blk} (l : c.Ok) (k : d.Ok) : (ansC c d b).Ok := by
  unfold ansC
  split
  · exact now_ok l k
  · exact zd_ok
theorem ansN_ok {d : Dat} {b : Blk} (k : d.Ok) (j : b.Ok) : (ansN d b).Ok := by
  unfold ansN
  split
  · rename_i h; exact next_ok k j h.2
  · exact zd_ok
theorem ans_slot {c d : Dat} {b : Blk} (h : b.to ≤ b.fro) : ansC c d b = zd ∧ ansN d b = zd ∧ ansE d b = 6 := by
  unfold ansC ansN ansE
  rw [if_neg (by omega), if_neg (by omega), if_neg (by omega)]
  exact ⟨rfl, rfl, rfl⟩
theorem ans_over {c d : Dat} {b : Blk} (h : b.fro < b.to) (ho : overs d b) : ansC c d b = zd ∧ ansN d b = zd ∧ ansE d b = 5 := by
  unfold ansC ansN ansE
  rw [if_neg (fun x => x.2 ho), if_neg (fun x => x.2 ho), if_pos h, if_pos ho]
  exact ⟨rfl, rfl, rfl⟩
theorem ans_ok {c d : Dat} {b : Blk} (h : b.fro < b.to) (ho : ¬ overs d b) : ansC c d b = nowF c d b ∧ ansN d b = nextF d b ∧ ansE d b = 0 := by
  unfold ansC ansN ansE
  rw [if_pos ⟨h, ho⟩, if_pos ⟨h, ho⟩, if_pos h, if_neg ho]
  exact ⟨rfl, rfl, rfl⟩
theorem follow_any (cc dd : Dat) (b : Blk) (w : World) (l : cc.Ok) (k : dd.Ok) (j : b.Ok) (hk : w.rangeAt 1 0 (u32s ks)) :
    Calls Tryd.prog 8 #[.agg (pcs cc dd).toArray, .agg (bcs b).toArray] w fun e w' => e = .returned (.tuple #[.agg (pcs (ansC cc dd b) (ansN dd b)).toArray, .int .i64 (ansE dd b)]) ∧ Below w.heap.size w w' := by
  by_cases h : b.fro < b.to
  · by_cases ho : overs dd b
    · obtain ⟨e1, e2, e3⟩ := ans_over (c := cc) h ho
      rw [e1, e2, e3]
      exact follow_over cc dd b w l k j h ho.1 ho.2
    · obtain ⟨e1, e2, e3⟩ := ans_ok (c := cc) h ho
      rw [e1, e2, e3]
      exact follow_ok cc dd b w l k j hk h ho
  · obtain ⟨e1, e2, e3⟩ := ans_slot (c := cc) (d := dd) (b := b) (by omega)
    rw [e1, e2, e3]
    exact follow_slot cc dd b w l k j (by omega)
end Go.Proofs.YtijpgncecfgfdaaDoor.Ep
