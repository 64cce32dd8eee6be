/-
  The contracts of package choose's functions: near ones, densities, who wins, the tip that is kept of candidates (a struct that is embedded by value, and answers by promoted methods). Over this seat's translation.
-/
import Derived.Test.YtffpifljeeikfaaGreatDoorChoMem
import Derived.Test.YtffpifljeeikfaaGreatDoorEpoAll
import Derived.Test.YtffpifljeeikfaaGreatDoorCmp
import Derived.Deep.DeepCutAuto
namespace Go.Proofs.YtffpifljeeikfaaGreatDoor.Cz
open Go.ChangeShapes Go.WideShapes Go.ChangeAt Go.RowKit Go.Proofs.YtffpifljeeikfaaGreatDoor.Mem Go.Proofs.YtffpifljeeikfaaGreatDoor.Bt Go.Proofs.YtffpifljeeikfaaGreatDoor.Sa Go.Proofs.YtffpifljeeikfaaGreatDoor.Sl
open Go.Proofs.YtffpifljeeikfaaGreatDoor.Od (Ky kcs kcmp kval keyN keyN_ok cmpN_neg cmpN_pos sz_key)
open Go.Proofs.YtffpifljeeikfaaGreatDoor.Lk (kS fS)
open Go.Proofs.YtffpifljeeikfaaGreatDoor.Wn (wcs WRt)
open Go.Proofs.YtffpifljeeikfaaGreatDoor.Ep (H32 zh zh_ok num32 Has h_len one_app one_num szH zH fitH allH)
open Go.Proofs.YtffpifljeeikfaaGreatDoor.Sha (ks)
set_option linter.unusedVariables false
set_option linter.unusedSimpArgs false

theorem only_trans {b : Nat} {u v w : World} (h : Only b u v) (g : Only b v w) : Only b u w := ⟨g.os.trans h.os, g.tape.trans h.tape, g.output.trans h.output, Nat.le_trans h.size g.size, fun k hk hne => (g.block k (Nat.lt_of_lt_of_le hk h.size) hne).trans (h.block k hk hne)⟩
theorem only_below {b : Nat} {v w : World} (g : Below v.heap.size v w) : Only b v w := ⟨g.os, g.tape, g.output, g.size, fun k hk _ => g.block k hk⟩
set_option maxHeartbeats 4000000 in
set_option maxRecDepth 100000 in
theorem nearM_any (a b : Sta) (w : World) (ka : a.Ok) (kb : b.Ok) :
    Calls Tryz.prog 21 #[.agg (rl a b).toArray] w fun e w' => e = .returned (.bool (decide (nearP a b))) ∧ Below w.heap.size w w' := by
  have KA := Lib.hid ka; have KB := Lib.hid kb
  have CT := Lib.hid (fun w0 => Slot.turnsB_any b.slot a.slot w0 kb.slot ka.slot)
  have CE := Lib.hid (fun (s : Sta) w0 (k : s.Ok) => Slot.epochB_any s.slot w0 k.slot)
  have CL := Lib.hid (fun (s : Sta) w0 (k : s.Ok) => Slot.lockingB_any s.slot w0 k.slot)
  have BA := Lib.hid ka.slot; have BB := Lib.hid kb.slot
  obtain ⟨v, hv⟩ : ∃ v, v = decide (nearP a b) := ⟨_, rfl⟩
  rw [← hv]
  have HV := Lib.hid hv
  clear hv ka kb
  go_enter Tryz.func21, Tryz.ntmps21
  go_wp2_with (first
    | ((with_reducible refine at_slot 1 ?_); (refine arm_box (o := ⟨some 1, _, _, _, _, _⟩) rfl _ _ rfl (rl a b) rfl ?_); intro R v1 Re hv1 nv1))
  have q0 := Re.out
  have q1 := nv1.size
  have lR : w.heap.size ≤ R := by omega
  have rR2 : Row v1 R 67 (rl a b) := hv1
  have bel2 : Below w.heap.size w v1 := (below_step (Below.refl _ _) (by omega) nv1.below)
  clear q0 q1 Re hv1 nv1
  go_cut [3, 4] (fun x y wx => ∃ E Y : Nat, x = .pointer (some ⟨E, 0, none⟩) ∧ y = .pointer (some ⟨Y, 0, none⟩) ∧ E ≠ Y ∧ Row wx E 35 (scs a) ∧ Row wx Y 35 (scs b) ∧ Below w.heap.size w wx ∧ w.heap.size ≤ E ∧ w.heap.size ≤ Y)
  case first =>
    refine wp_region_held (S := fun w' => Row w' R 67 (rl a b)) (by kernel_rfl) ?_
    change wpAnyH _ _ _ _ _ _ _ _ v1.drew
    have hS0 : Row v1.drew R 67 (rl a b) := rR2
    have b0 : Below w.heap.size w v1.drew := bel2.trans ((Below.refl _ _).drew)
    generalize v1.drew = y0 at hS0 b0 ⊢
    refine h_take 0 (.pointer (some ⟨R, 0, none⟩)) rfl 5 rfl (by kernel_rfl) (by kernel_rfl) (by kernel_rfl) (by kernel_rfl) (fun _ _ _ h => h) (fun w' _ => by kernel_rfl) hS0 ?_
    simp only [Act.put, List.setIfInBounds_toArray, List.set_cons_zero, List.set_cons_succ]
    refine h_take 1 (.agg (scs a).toArray) rfl 6 rfl (by kernel_rfl) (by kernel_rfl) (by kernel_rfl) (by kernel_rfl) (fun _ _ _ h => h) (fun w' hw => run_op_load _ _ rfl R 0 rfl (scs a) ((r_one a b).range hw) (sz_sta KA.out)) hS0 ?_
    simp only [Act.put, List.setIfInBounds_toArray, List.set_cons_zero, List.set_cons_succ]
    refine h_take 2 (.pointer (some ⟨R, 363, none⟩)) rfl 7 rfl (by kernel_rfl) (by kernel_rfl) (by kernel_rfl) (by kernel_rfl) (fun _ _ _ h => h) (fun w' _ => by kernel_rfl) hS0 ?_
    simp only [Act.put, List.setIfInBounds_toArray, List.set_cons_zero, List.set_cons_succ]
    refine h_take 3 (.agg (scs b).toArray) rfl 8 rfl (by kernel_rfl) (by kernel_rfl) (by kernel_rfl) (by kernel_rfl) (fun _ _ _ h => h) (fun w' hw => run_op_load _ _ rfl R 363 rfl (scs b) ((r_other KA.out).range hw) (sz_sta KB.out)) hS0 ?_
    simp only [Act.put, List.setIfInBounds_toArray, List.set_cons_zero, List.set_cons_succ]
    refine h_two (i := 4) (j := 5) (by kernel_rfl) ?_ ?_
    · skip
      refine (o_value _ rfl 3 rfl (by kernel_rfl) (run_op_alloc _ rfl (scs zs) z_sta) ?_)
      have hN0 := new_alloc y0 (.cells (scs zs).toArray 35)
      have rE : Row (y0.alloc (.cells (scs zs).toArray 35)) y0.heap.size 35 (scs zs) := heap_alloc_new _ _
      have lE : w.heap.size ≤ y0.heap.size := b0.size
      have qE := hS0.lt
      generalize y0.alloc (.cells (scs zs).toArray 35) = y1 at hN0 rE ⊢
      have b1 : Below w.heap.size w y1 := below_step b0 b0.size hN0.below
      have hS1 := hS0.old hN0.below
      clear hN0
      refine ⟨hS1, ?_⟩
      generalize y0.heap.size = E at rE lE qE ⊢
      simp only [Act.put, List.setIfInBounds_toArray, List.set_cons_zero, List.set_cons_succ]
      refine h_one (i := 5) (by kernel_rfl) (o_value _ rfl 4 rfl (by kernel_rfl) (run_op_alloc _ rfl (scs zs) z_sta) ?_)
      have hN1 := new_alloc y1 (.cells (scs zs).toArray 35)
      have rY : Row (y1.alloc (.cells (scs zs).toArray 35)) y1.heap.size 35 (scs zs) := heap_alloc_new _ _
      have lY : w.heap.size ≤ y1.heap.size := b1.size
      have qY := hS1.lt
      have ltE := rE.lt
      generalize y1.alloc (.cells (scs zs).toArray 35) = y2 at hN1 rY ⊢
      have b2 : Below w.heap.size w y2 := below_step b1 b1.size hN1.below
      have hS2 := hS1.old hN1.below
      have rE2 := rE.old hN1.below
      clear hN1
      refine ⟨hS2, ?_⟩
      generalize y1.heap.size = Y at rY lY qY ltE ⊢
      simp only [Act.put, List.setIfInBounds_toArray, List.set_cons_zero, List.set_cons_succ]
      have nEY : E ≠ Y := by omega
      have nYE := Ne.symm nEY
      have nRE : R ≠ E := by omega
      have nRY : R ≠ Y := by omega
      refine h_one (i := 6) (by kernel_rfl) (o_skip rfl rfl (by kernel_rfl) (run_op_store _ _ _ rfl E 0 rfl (scs a) rfl _ _ rE2 (fitS KA.out) (scs_one _) (sz_sta KA.out)) ?_)
      have rq0 := row_setRow rE2 (lay (scs zs) 0 (scs a))
      have oq0 := Only.setRow E y2 (lay (scs zs) 0 (scs a)).toArray
      generalize y2.setRow E (lay (scs zs) 0 (scs a)).toArray = z0 at rq0 oq0 ⊢
      have rYs0 := rY.only oq0 nYE
      have rEs0 := rq0.congr (allS KA.out)
      have bs0 : Below w.heap.size w z0 := below_only b2 oq0 lE b2.size
      have hSs0 := hS2.only oq0 nRE
      refine ⟨hSs0, ?_⟩
      refine h_one (i := 7) (by kernel_rfl) (o_skip rfl rfl (by kernel_rfl) (run_op_store _ _ _ rfl Y 0 rfl (scs b) rfl _ _ rYs0 (fitS KB.out) (scs_one _) (sz_sta KB.out)) ?_)
      have rq1 := row_setRow rYs0 (lay (scs zs) 0 (scs b))
      have oq1 := Only.setRow Y z0 (lay (scs zs) 0 (scs b)).toArray
      generalize z0.setRow Y (lay (scs zs) 0 (scs b)).toArray = z1 at rq1 oq1 ⊢
      have rEs1 := rEs0.only oq1 nEY
      have rYs1 := rq1.congr (allS KB.out)
      have bs1 : Below w.heap.size w z1 := below_only bs0 oq1 lY bs0.size
      have hSs1 := hSs0.only oq1 nRY
      refine ⟨hSs1, ?_⟩
      refine wpAnyH_done (by kernel_rfl) ?_ _
      go_wp2_with fail
      go_meet
      exact ⟨E, Y, rfl, rfl, nEY, rEs1, rYs1, bs1, lE, lY⟩
    · skip
      refine (o_value _ rfl 4 rfl (by kernel_rfl) (run_op_alloc _ rfl (scs zs) z_sta) ?_)
      have hN0 := new_alloc y0 (.cells (scs zs).toArray 35)
      have rY : Row (y0.alloc (.cells (scs zs).toArray 35)) y0.heap.size 35 (scs zs) := heap_alloc_new _ _
      have lY : w.heap.size ≤ y0.heap.size := b0.size
      have qY := hS0.lt
      generalize y0.alloc (.cells (scs zs).toArray 35) = y1 at hN0 rY ⊢
      have b1 : Below w.heap.size w y1 := below_step b0 b0.size hN0.below
      have hS1 := hS0.old hN0.below
      clear hN0
      refine ⟨hS1, ?_⟩
      generalize y0.heap.size = Y at rY lY qY ⊢
      simp only [Act.put, List.setIfInBounds_toArray, List.set_cons_zero, List.set_cons_succ]
      refine h_one (i := 4) (by kernel_rfl) (o_value _ rfl 3 rfl (by kernel_rfl) (run_op_alloc _ rfl (scs zs) z_sta) ?_)
      have hN1 := new_alloc y1 (.cells (scs zs).toArray 35)
      have rE : Row (y1.alloc (.cells (scs zs).toArray 35)) y1.heap.size 35 (scs zs) := heap_alloc_new _ _
      have lE : w.heap.size ≤ y1.heap.size := b1.size
      have qE := hS1.lt
      have ltY := rY.lt
      generalize y1.alloc (.cells (scs zs).toArray 35) = y2 at hN1 rE ⊢
      have b2 : Below w.heap.size w y2 := below_step b1 b1.size hN1.below
      have hS2 := hS1.old hN1.below
      have rY2 := rY.old hN1.below
      clear hN1
      refine ⟨hS2, ?_⟩
      generalize y1.heap.size = E at rE lE qE ltY ⊢
      simp only [Act.put, List.setIfInBounds_toArray, List.set_cons_zero, List.set_cons_succ]
      have nYE : Y ≠ E := by omega
      have nEY := Ne.symm nYE
      have nRE : R ≠ E := by omega
      have nRY : R ≠ Y := by omega
      refine h_one (i := 6) (by kernel_rfl) (o_skip rfl rfl (by kernel_rfl) (run_op_store _ _ _ rfl E 0 rfl (scs a) rfl _ _ rE (fitS KA.out) (scs_one _) (sz_sta KA.out)) ?_)
      have rq0 := row_setRow rE (lay (scs zs) 0 (scs a))
      have oq0 := Only.setRow E y2 (lay (scs zs) 0 (scs a)).toArray
      generalize y2.setRow E (lay (scs zs) 0 (scs a)).toArray = z0 at rq0 oq0 ⊢
      have rYs0 := rY2.only oq0 nYE
      have rEs0 := rq0.congr (allS KA.out)
      have bs0 : Below w.heap.size w z0 := below_only b2 oq0 lE b2.size
      have hSs0 := hS2.only oq0 nRE
      refine ⟨hSs0, ?_⟩
      refine h_one (i := 7) (by kernel_rfl) (o_skip rfl rfl (by kernel_rfl) (run_op_store _ _ _ rfl Y 0 rfl (scs b) rfl _ _ rYs0 (fitS KB.out) (scs_one _) (sz_sta KB.out)) ?_)
      have rq1 := row_setRow rYs0 (lay (scs zs) 0 (scs b))
      have oq1 := Only.setRow Y z0 (lay (scs zs) 0 (scs b)).toArray
      generalize z0.setRow Y (lay (scs zs) 0 (scs b)).toArray = z1 at rq1 oq1 ⊢
      have rEs1 := rEs0.only oq1 nEY
      have rYs1 := rq1.congr (allS KB.out)
      have bs1 : Below w.heap.size w z1 := below_only bs0 oq1 lY bs0.size
      have hSs1 := hSs0.only oq1 nRY
      refine ⟨hSs1, ?_⟩
      refine wpAnyH_done (by kernel_rfl) ?_ _
      go_wp2_with fail
      go_meet
      exact ⟨E, Y, rfl, rfl, nEY, rEs1, rYs1, bs1, lE, lY⟩
  case rest =>
    obtain ⟨E, Y, rfl, rfl, nEY, rE, rY, bel, lE, lY⟩ := hcut
    clear rR2 bel2
    have nYE := Ne.symm nEY
    by_cases ht : b.slot / 24 < a.slot / 24
    · rw [decide_eq_true ht] at CT
      have HT := Lib.hid ht; clear ht
      go_wp2_with (first
        | ((with_reducible refine at_slot 10 ?_); (refine arm_want (.int .u32 (b.slot : Int)) 10 rfl (by kernel_rfl) (run_op_load1 _ _ rfl (.int .u32) (by kernel_rfl) rfl ⟨Y, 96, none⟩ rfl (.int .u32 (b.slot : Int)) (rY.cell (show Has (scs b) 96 [.int .u32 (b.slot : Int)] from s_slot KB.out).get)) ?_))
        | ((with_reducible refine at_slot 12 ?_); (refine arm_want (.int .u32 (a.slot : Int)) 12 rfl (by kernel_rfl) (run_op_load1 _ _ rfl (.int .u32) (by kernel_rfl) rfl ⟨E, 96, none⟩ rfl (.int .u32 (a.slot : Int)) (rE.cell (show Has (scs a) 96 [.int .u32 (a.slot : Int)] from s_slot KA.out).get)) ?_)))
      refine (CT.out _).mono ?_
      rintro e y51 ⟨rfl, hB⟩
      have rE51 : Row y51 E 35 (scs a) := rE.old hB
      have rY51 : Row y51 Y 35 (scs b) := rY.old hB
      have bel51 : Below w.heap.size w y51 := below_step bel bel.size hB
      clear hB rE rY bel
      clear CT
      go_wp2_with (first
        | ((with_reducible refine at_slot 14 ?_); (refine arm_load (o := ⟨some 14, _, _, _, _, _⟩) rfl _ _ rfl Y 0 rfl (scs b) ((show Has (scs b) 0 (scs b) from Has.refl _).range (rY51)) (sz_sta KB.out) ?_))
        | ((with_reducible refine at_slot 15 ?_); (refine arm_load (o := ⟨some 15, _, _, _, _, _⟩) rfl _ _ rfl E 0 rfl (scs a) ((show Has (scs a) 0 (scs a) from Has.refl _).range (rE51)) (sz_sta KA.out) ?_))
        | ((with_reducible refine arm_store (o := ⟨none, _, _, _, _, _⟩) rfl _ _ _ rfl E 0 rfl (scs b) rfl _ _ (rE51) (by rw [scs_len KA.out, scs_len KB.out]; omega) (scs_one _) (sz_sta KB.out) ?_); intro v52 hv52 ov52 sv52)
        | ((with_reducible refine arm_store (o := ⟨none, _, _, _, _, _⟩) rfl _ _ _ rfl Y 0 rfl (scs a) rfl _ _ ((rY51.only ov52 nYE)) (by rw [scs_len KA.out, scs_len KB.out]; omega) (scs_one _) (sz_sta KA.out) ?_); intro v53 hv53 ov53 sv53))
      have q0 := sv52.out
      have q1 := sv53.out
      have q2 := rE51.lt
      have q3 := rY51.lt
      have q4 := bel51.size
      have rE54 : Row v53 E 35 (scs b) := ((hv52.congr (lay_all _ _ (by rw [scs_len KA.out, scs_len KB.out]))).only ov53 nEY)
      have rY54 : Row v53 Y 35 (scs a) := (hv53.congr (lay_all _ _ (by rw [scs_len KA.out, scs_len KB.out])))
      have bel54 : Below w.heap.size w v53 := (below_only (below_only bel51 ov52 lE (by omega)) ov53 lY (by omega))
      clear q0 q1 q2 q3 q4 rE51 rY51 bel51 hv52 ov52 sv52 hv53 ov53 sv53
      have HN : Hid (v = decide (nearP b a)) := Lib.hid (by rw [HV.out]; exact decide_eq_decide.2 near_swap)
      clear HV
      have ht := HT.out; clear HT
      rcases (show a.slot / 24 = b.slot / 24 ∨ a.slot / 24 = b.slot / 24 + 1 ∨ b.slot / 24 + 2 ≤ a.slot / 24 by omega) with h | h | h
      · skip
        have HD : Hid (IntKind.u32.wrap (((a.slot / 24 : Nat) : Int) - ((b.slot / 24 : Nat) : Int)) = 0) := Lib.hid (by have := BA.out; have := BB.out; rw [IntKind.wrap_u32]; omega)
        obtain ⟨bb, hbb⟩ : ∃ bb : Bool, bb = true ↔ a.now.lock = b.now.lock := ⟨decide _, decide_eq_true_iff⟩
        have HB := Lib.hid hbb
        have HQ : Hid (v = bb) := Lib.hid (by rw [HN.out]; exact Bool.eq_iff_iff.2 (decide_eq_true_iff.trans ((near_at0 h).trans hbb.symm)))
        clear hbb
        clear h HN ht
        refine wp_region_quiet (C := fun w' => Below v53.heap.size v53 w') (by kernel_rfl) (by kernel_rfl) ((Below.refl _ _).drew) ?_
        rw [List.toList_toArray]
        refine q_value 16 rfl (.pointer (some ⟨Y, 96, none⟩)) (by kernel_rfl) (fun w' _ => by kernel_rfl) ?_
        simp only [Act.put, List.setIfInBounds_toArray, List.set_cons_zero, List.set_cons_succ]
        refine q_value 17 rfl (.int .u32 (a.slot : Int)) (by kernel_rfl) (fun w' hC => run_op_load1 _ _ rfl (.int .u32) (by kernel_rfl) rfl ⟨Y, 96, none⟩ rfl (.int .u32 (a.slot : Int)) ((rY54.old hC).cell (s_slot KA.out).get)) ?_
        simp only [Act.put, List.setIfInBounds_toArray, List.set_cons_zero, List.set_cons_succ]
        refine q_call 18 rfl (.int .u32 ((a.slot / 24 : Nat) : Int)) 42 #[.int .u32 (a.slot : Int)] (by kernel_rfl) (fun w' _ => run_op_call _ _ _ rfl _ (by simp only [List.map_toArray, List.map_cons, List.map_nil]; rfl) Tryz.func42 (by kernel_rfl) (by kernel_rfl) w') (fun w' hC => (CE.out a w' KA.out).mono fun e w'' h => ⟨h.1, below_step hC hC.size h.2⟩) ?_
        simp only [Act.put, List.setIfInBounds_toArray, List.set_cons_zero, List.set_cons_succ]
        refine q_value 19 rfl (.pointer (some ⟨E, 96, none⟩)) (by kernel_rfl) (fun w' _ => by kernel_rfl) ?_
        simp only [Act.put, List.setIfInBounds_toArray, List.set_cons_zero, List.set_cons_succ]
        refine q_value 20 rfl (.int .u32 (b.slot : Int)) (by kernel_rfl) (fun w' hC => run_op_load1 _ _ rfl (.int .u32) (by kernel_rfl) rfl ⟨E, 96, none⟩ rfl (.int .u32 (b.slot : Int)) ((rE54.old hC).cell (s_slot KB.out).get)) ?_
        simp only [Act.put, List.setIfInBounds_toArray, List.set_cons_zero, List.set_cons_succ]
        refine q_call 21 rfl (.int .u32 ((b.slot / 24 : Nat) : Int)) 42 #[.int .u32 (b.slot : Int)] (by kernel_rfl) (fun w' _ => run_op_call _ _ _ rfl _ (by simp only [List.map_toArray, List.map_cons, List.map_nil]; rfl) Tryz.func42 (by kernel_rfl) (by kernel_rfl) w') (fun w' hC => (CE.out b w' KB.out).mono fun e w'' h => ⟨h.1, below_step hC hC.size h.2⟩) ?_
        simp only [Act.put, List.setIfInBounds_toArray, List.set_cons_zero, List.set_cons_succ]
        refine q_value 22 rfl (.int .u32 0) (by kernel_rfl) (fun w' _ => run_op_sub32 _ _ _ _ rfl _ _ _ rfl rfl HD.out w') ?_
        simp only [Act.put, List.setIfInBounds_toArray, List.set_cons_zero, List.set_cons_succ]
        refine wpQuiet_nil ?_
        intro w2 hC
        have xE := rE54.old hC; have xY := rY54.old hC; have belE := below_step bel54 bel54.size hC
        clear hC rE54 rY54 bel54
        go_wp2_with (first
          | ((with_reducible refine at_slot 28 ?_); (refine arm_load (o := ⟨some 28, _, _, _, _, _⟩) rfl _ _ rfl Y 201 rfl (u8s a.now.lock) ((show Has (scs a) 201 (u8s a.now.lock) from s_nlock KA.out).range (xY)) (szH KA.out.now.lock) ?_))
          | ((with_reducible refine at_slot 32 ?_); (refine arm_load (o := ⟨some 32, _, _, _, _, _⟩) rfl _ _ rfl E 201 rfl (u8s b.now.lock) ((show Has (scs b) 201 (u8s b.now.lock) from s_nlock KB.out).range (xE)) (szH KB.out.now.lock) ?_))
          | ((with_reducible refine at_slot 33 ?_); (refine arm_want (.bool bb) 33 rfl (by kernel_rfl) (run_op_eqlD KA.out.now.lock KB.out.now.lock _ _ _ rfl rfl rfl bb HB.out _) ?_)))
        rw [HQ.out]
        go_ret
        exact ⟨rfl, belE⟩
      · skip
        have HD : Hid (IntKind.u32.wrap (((a.slot / 24 : Nat) : Int) - ((b.slot / 24 : Nat) : Int)) = 1) := Lib.hid (by have := BA.out; have := BB.out; rw [IntKind.wrap_u32]; omega)
        have CLe := Lib.hid (fun w0 => CL.out b w0 KB.out); clear CL
        by_cases hl : b.slot % 24 < 16
        · rw [decide_eq_true hl] at CLe
          have HQ : Hid (v = false) := Lib.hid (by rw [HN.out]; exact decide_eq_false (fun g => by have := ((near_at1 h).1 g).1; omega))
          clear h hl HN ht
          refine wp_region_quiet (C := fun w' => Below v53.heap.size v53 w') (by kernel_rfl) (by kernel_rfl) ((Below.refl _ _).drew) ?_
          rw [List.toList_toArray]
          refine q_value 16 rfl (.pointer (some ⟨Y, 96, none⟩)) (by kernel_rfl) (fun w' _ => by kernel_rfl) ?_
          simp only [Act.put, List.setIfInBounds_toArray, List.set_cons_zero, List.set_cons_succ]
          refine q_value 17 rfl (.int .u32 (a.slot : Int)) (by kernel_rfl) (fun w' hC => run_op_load1 _ _ rfl (.int .u32) (by kernel_rfl) rfl ⟨Y, 96, none⟩ rfl (.int .u32 (a.slot : Int)) ((rY54.old hC).cell (s_slot KA.out).get)) ?_
          simp only [Act.put, List.setIfInBounds_toArray, List.set_cons_zero, List.set_cons_succ]
          refine q_call 18 rfl (.int .u32 ((a.slot / 24 : Nat) : Int)) 42 #[.int .u32 (a.slot : Int)] (by kernel_rfl) (fun w' _ => run_op_call _ _ _ rfl _ (by simp only [List.map_toArray, List.map_cons, List.map_nil]; rfl) Tryz.func42 (by kernel_rfl) (by kernel_rfl) w') (fun w' hC => (CE.out a w' KA.out).mono fun e w'' h => ⟨h.1, below_step hC hC.size h.2⟩) ?_
          simp only [Act.put, List.setIfInBounds_toArray, List.set_cons_zero, List.set_cons_succ]
          refine q_value 19 rfl (.pointer (some ⟨E, 96, none⟩)) (by kernel_rfl) (fun w' _ => by kernel_rfl) ?_
          simp only [Act.put, List.setIfInBounds_toArray, List.set_cons_zero, List.set_cons_succ]
          refine q_value 20 rfl (.int .u32 (b.slot : Int)) (by kernel_rfl) (fun w' hC => run_op_load1 _ _ rfl (.int .u32) (by kernel_rfl) rfl ⟨E, 96, none⟩ rfl (.int .u32 (b.slot : Int)) ((rE54.old hC).cell (s_slot KB.out).get)) ?_
          simp only [Act.put, List.setIfInBounds_toArray, List.set_cons_zero, List.set_cons_succ]
          refine q_call 21 rfl (.int .u32 ((b.slot / 24 : Nat) : Int)) 42 #[.int .u32 (b.slot : Int)] (by kernel_rfl) (fun w' _ => run_op_call _ _ _ rfl _ (by simp only [List.map_toArray, List.map_cons, List.map_nil]; rfl) Tryz.func42 (by kernel_rfl) (by kernel_rfl) w') (fun w' hC => (CE.out b w' KB.out).mono fun e w'' h => ⟨h.1, below_step hC hC.size h.2⟩) ?_
          simp only [Act.put, List.setIfInBounds_toArray, List.set_cons_zero, List.set_cons_succ]
          refine q_value 22 rfl (.int .u32 1) (by kernel_rfl) (fun w' _ => run_op_sub32 _ _ _ _ rfl _ _ _ rfl rfl HD.out w') ?_
          simp only [Act.put, List.setIfInBounds_toArray, List.set_cons_zero, List.set_cons_succ]
          refine wpQuiet_nil ?_
          intro w2 hC
          have xE := rE54.old hC; have xY := rY54.old hC; have belE := below_step bel54 bel54.size hC
          clear hC rE54 rY54 bel54
          go_wp2_with (first
            | ((with_reducible refine at_slot 37 ?_); (refine arm_want (.int .u32 (b.slot : Int)) 37 rfl (by kernel_rfl) (run_op_load1 _ _ rfl (.int .u32) (by kernel_rfl) rfl ⟨E, 96, none⟩ rfl (.int .u32 (b.slot : Int)) (xE.cell (show Has (scs b) 96 [.int .u32 (b.slot : Int)] from s_slot KB.out).get)) ?_)))
          refine (CLe.out _).mono ?_
          rintro e y55 ⟨rfl, hB⟩
          have rE55 : Row y55 E 35 (scs b) := xE.old hB
          have rY55 : Row y55 Y 35 (scs a) := xY.old hB
          have bel55 : Below w.heap.size w y55 := below_step belE belE.size hB
          clear hB xE xY belE
          go_wp2_with fail
          rw [HQ.out]
          go_ret
          exact ⟨rfl, bel55⟩
        · rw [decide_eq_false hl] at CLe
          obtain ⟨bb, hbb⟩ : ∃ bb : Bool, bb = true ↔ a.now.lock = b.next.lock := ⟨decide _, decide_eq_true_iff⟩
          have HB := Lib.hid hbb
          have HQ : Hid (v = bb) := Lib.hid (by rw [HN.out]; exact Bool.eq_iff_iff.2 (decide_eq_true_iff.trans ((near_at1 h).trans ⟨fun g => hbb.2 g.2, fun g => ⟨by omega, hbb.1 g⟩⟩)))
          clear hbb
          clear h hl HN ht
          refine wp_region_quiet (C := fun w' => Below v53.heap.size v53 w') (by kernel_rfl) (by kernel_rfl) ((Below.refl _ _).drew) ?_
          rw [List.toList_toArray]
          refine q_value 16 rfl (.pointer (some ⟨Y, 96, none⟩)) (by kernel_rfl) (fun w' _ => by kernel_rfl) ?_
          simp only [Act.put, List.setIfInBounds_toArray, List.set_cons_zero, List.set_cons_succ]
          refine q_value 17 rfl (.int .u32 (a.slot : Int)) (by kernel_rfl) (fun w' hC => run_op_load1 _ _ rfl (.int .u32) (by kernel_rfl) rfl ⟨Y, 96, none⟩ rfl (.int .u32 (a.slot : Int)) ((rY54.old hC).cell (s_slot KA.out).get)) ?_
          simp only [Act.put, List.setIfInBounds_toArray, List.set_cons_zero, List.set_cons_succ]
          refine q_call 18 rfl (.int .u32 ((a.slot / 24 : Nat) : Int)) 42 #[.int .u32 (a.slot : Int)] (by kernel_rfl) (fun w' _ => run_op_call _ _ _ rfl _ (by simp only [List.map_toArray, List.map_cons, List.map_nil]; rfl) Tryz.func42 (by kernel_rfl) (by kernel_rfl) w') (fun w' hC => (CE.out a w' KA.out).mono fun e w'' h => ⟨h.1, below_step hC hC.size h.2⟩) ?_
          simp only [Act.put, List.setIfInBounds_toArray, List.set_cons_zero, List.set_cons_succ]
          refine q_value 19 rfl (.pointer (some ⟨E, 96, none⟩)) (by kernel_rfl) (fun w' _ => by kernel_rfl) ?_
          simp only [Act.put, List.setIfInBounds_toArray, List.set_cons_zero, List.set_cons_succ]
          refine q_value 20 rfl (.int .u32 (b.slot : Int)) (by kernel_rfl) (fun w' hC => run_op_load1 _ _ rfl (.int .u32) (by kernel_rfl) rfl ⟨E, 96, none⟩ rfl (.int .u32 (b.slot : Int)) ((rE54.old hC).cell (s_slot KB.out).get)) ?_
          simp only [Act.put, List.setIfInBounds_toArray, List.set_cons_zero, List.set_cons_succ]
          refine q_call 21 rfl (.int .u32 ((b.slot / 24 : Nat) : Int)) 42 #[.int .u32 (b.slot : Int)] (by kernel_rfl) (fun w' _ => run_op_call _ _ _ rfl _ (by simp only [List.map_toArray, List.map_cons, List.map_nil]; rfl) Tryz.func42 (by kernel_rfl) (by kernel_rfl) w') (fun w' hC => (CE.out b w' KB.out).mono fun e w'' h => ⟨h.1, below_step hC hC.size h.2⟩) ?_
          simp only [Act.put, List.setIfInBounds_toArray, List.set_cons_zero, List.set_cons_succ]
          refine q_value 22 rfl (.int .u32 1) (by kernel_rfl) (fun w' _ => run_op_sub32 _ _ _ _ rfl _ _ _ rfl rfl HD.out w') ?_
          simp only [Act.put, List.setIfInBounds_toArray, List.set_cons_zero, List.set_cons_succ]
          refine wpQuiet_nil ?_
          intro w2 hC
          have xE := rE54.old hC; have xY := rY54.old hC; have belE := below_step bel54 bel54.size hC
          clear hC rE54 rY54 bel54
          go_wp2_with (first
            | ((with_reducible refine at_slot 37 ?_); (refine arm_want (.int .u32 (b.slot : Int)) 37 rfl (by kernel_rfl) (run_op_load1 _ _ rfl (.int .u32) (by kernel_rfl) rfl ⟨E, 96, none⟩ rfl (.int .u32 (b.slot : Int)) (xE.cell (show Has (scs b) 96 [.int .u32 (b.slot : Int)] from s_slot KB.out).get)) ?_)))
          refine (CLe.out _).mono ?_
          rintro e y55 ⟨rfl, hB⟩
          have rE55 : Row y55 E 35 (scs b) := xE.old hB
          have rY55 : Row y55 Y 35 (scs a) := xY.old hB
          have bel55 : Below w.heap.size w y55 := below_step belE belE.size hB
          clear hB xE xY belE
          go_wp2_with (first
            | ((with_reducible refine at_slot 44 ?_); (refine arm_want (.agg (u8s a.now.lock).toArray) 44 rfl (by kernel_rfl) (run_op_load _ _ rfl Y 201 rfl (u8s a.now.lock) ((show Has (scs a) 201 (u8s a.now.lock) from s_nlock KA.out).range (rY55)) ((szH KA.out.now.lock))) ?_))
            | ((with_reducible refine at_slot 48 ?_); (refine arm_want (.agg (u8s b.next.lock).toArray) 48 rfl (by kernel_rfl) (run_op_load _ _ rfl E 330 rfl (u8s b.next.lock) ((show Has (scs b) 330 (u8s b.next.lock) from s_xlock KB.out).range (rE55)) ((szH KB.out.next.lock))) ?_))
            | ((with_reducible refine at_slot 49 ?_); (refine arm_want (.bool bb) 49 rfl (by kernel_rfl) (run_op_eqlD KA.out.now.lock KB.out.next.lock _ _ _ rfl rfl rfl bb HB.out _) ?_)))
          rw [HQ.out]
          go_ret
          exact ⟨rfl, bel55⟩
      · skip
        obtain ⟨D, hD⟩ : ∃ D : Nat, D = a.slot / 24 - b.slot / 24 := ⟨_, rfl⟩
        have HD : Hid (IntKind.u32.wrap (((a.slot / 24 : Nat) : Int) - ((b.slot / 24 : Nat) : Int)) = (D : Int)) := Lib.hid (by have := BA.out; have := BB.out; rw [IntKind.wrap_u32]; omega)
        have HQ : Hid (v = false) := Lib.hid (by rw [HN.out]; exact decide_eq_false (near_at2 h))
        have g2 : 2 ≤ D := by omega
        have d0 : ((D : Int) == 0) = false := beq_eq_false_iff_ne.2 (by omega)
        have d1 : ((D : Int) == 1) = false := beq_eq_false_iff_ne.2 (by omega)
        have d2 : decide ((D : Int) = 0) = false := decide_eq_false (by omega)
        have d3 : decide ((D : Int) = 1) = false := decide_eq_false (by omega)
        have d4 : ¬ D = 0 := by omega
        have d5 : ¬ D = 1 := by omega
        have d6 : (D == 0) = false := beq_eq_false_iff_ne.2 (by omega)
        have d7 : (D == 1) = false := beq_eq_false_iff_ne.2 (by omega)
        clear h hD HN ht g2
        refine wp_region_quiet (C := fun w' => Below v53.heap.size v53 w') (by kernel_rfl) (by kernel_rfl) ((Below.refl _ _).drew) ?_
        rw [List.toList_toArray]
        refine q_value 16 rfl (.pointer (some ⟨Y, 96, none⟩)) (by kernel_rfl) (fun w' _ => by kernel_rfl) ?_
        simp only [Act.put, List.setIfInBounds_toArray, List.set_cons_zero, List.set_cons_succ]
        refine q_value 17 rfl (.int .u32 (a.slot : Int)) (by kernel_rfl) (fun w' hC => run_op_load1 _ _ rfl (.int .u32) (by kernel_rfl) rfl ⟨Y, 96, none⟩ rfl (.int .u32 (a.slot : Int)) ((rY54.old hC).cell (s_slot KA.out).get)) ?_
        simp only [Act.put, List.setIfInBounds_toArray, List.set_cons_zero, List.set_cons_succ]
        refine q_call 18 rfl (.int .u32 ((a.slot / 24 : Nat) : Int)) 42 #[.int .u32 (a.slot : Int)] (by kernel_rfl) (fun w' _ => run_op_call _ _ _ rfl _ (by simp only [List.map_toArray, List.map_cons, List.map_nil]; rfl) Tryz.func42 (by kernel_rfl) (by kernel_rfl) w') (fun w' hC => (CE.out a w' KA.out).mono fun e w'' h => ⟨h.1, below_step hC hC.size h.2⟩) ?_
        simp only [Act.put, List.setIfInBounds_toArray, List.set_cons_zero, List.set_cons_succ]
        refine q_value 19 rfl (.pointer (some ⟨E, 96, none⟩)) (by kernel_rfl) (fun w' _ => by kernel_rfl) ?_
        simp only [Act.put, List.setIfInBounds_toArray, List.set_cons_zero, List.set_cons_succ]
        refine q_value 20 rfl (.int .u32 (b.slot : Int)) (by kernel_rfl) (fun w' hC => run_op_load1 _ _ rfl (.int .u32) (by kernel_rfl) rfl ⟨E, 96, none⟩ rfl (.int .u32 (b.slot : Int)) ((rE54.old hC).cell (s_slot KB.out).get)) ?_
        simp only [Act.put, List.setIfInBounds_toArray, List.set_cons_zero, List.set_cons_succ]
        refine q_call 21 rfl (.int .u32 ((b.slot / 24 : Nat) : Int)) 42 #[.int .u32 (b.slot : Int)] (by kernel_rfl) (fun w' _ => run_op_call _ _ _ rfl _ (by simp only [List.map_toArray, List.map_cons, List.map_nil]; rfl) Tryz.func42 (by kernel_rfl) (by kernel_rfl) w') (fun w' hC => (CE.out b w' KB.out).mono fun e w'' h => ⟨h.1, below_step hC hC.size h.2⟩) ?_
        simp only [Act.put, List.setIfInBounds_toArray, List.set_cons_zero, List.set_cons_succ]
        refine q_value 22 rfl (.int .u32 (D : Int)) (by kernel_rfl) (fun w' _ => run_op_sub32 _ _ _ _ rfl _ _ _ rfl rfl HD.out w') ?_
        simp only [Act.put, List.setIfInBounds_toArray, List.set_cons_zero, List.set_cons_succ]
        refine wpQuiet_nil ?_
        intro w2 hC
        have xE := rE54.old hC; have xY := rY54.old hC; have belE := below_step bel54 bel54.size hC
        clear hC rE54 rY54 bel54
        go_wp2_with (first
          | ((with_reducible refine at_slot 24 ?_); (refine arm_want (.bool false) 24 rfl (by kernel_rfl) (cmp_eql _ _ .u32 (by kernel_rfl) _ _ rfl .u32 (D : Int) 0 rfl rfl false d2 _) ?_))
          | ((with_reducible refine at_slot 35 ?_); (refine arm_want (.bool false) 35 rfl (by kernel_rfl) (cmp_eql _ _ .u32 (by kernel_rfl) _ _ rfl .u32 (D : Int) 1 rfl rfl false d3 _) ?_)))
        rw [HQ.out]
        go_ret
        exact ⟨rfl, belE⟩
    · rw [decide_eq_false ht] at CT
      have HT := Lib.hid ht; clear ht
      go_wp2_with (first
        | ((with_reducible refine at_slot 10 ?_); (refine arm_want (.int .u32 (b.slot : Int)) 10 rfl (by kernel_rfl) (run_op_load1 _ _ rfl (.int .u32) (by kernel_rfl) rfl ⟨Y, 96, none⟩ rfl (.int .u32 (b.slot : Int)) (rY.cell (show Has (scs b) 96 [.int .u32 (b.slot : Int)] from s_slot KB.out).get)) ?_))
        | ((with_reducible refine at_slot 12 ?_); (refine arm_want (.int .u32 (a.slot : Int)) 12 rfl (by kernel_rfl) (run_op_load1 _ _ rfl (.int .u32) (by kernel_rfl) rfl ⟨E, 96, none⟩ rfl (.int .u32 (a.slot : Int)) (rE.cell (show Has (scs a) 96 [.int .u32 (a.slot : Int)] from s_slot KA.out).get)) ?_)))
      refine (CT.out _).mono ?_
      rintro e y51 ⟨rfl, hB⟩
      have rE51 : Row y51 E 35 (scs a) := rE.old hB
      have rY51 : Row y51 Y 35 (scs b) := rY.old hB
      have bel51 : Below w.heap.size w y51 := below_step bel bel.size hB
      clear hB rE rY bel
      clear CT
      go_wp2_with fail
      have HN : Hid (v = decide (nearP a b)) := Lib.hid HV.out
      clear HV
      have ht := HT.out; clear HT
      rcases (show b.slot / 24 = a.slot / 24 ∨ b.slot / 24 = a.slot / 24 + 1 ∨ a.slot / 24 + 2 ≤ b.slot / 24 by omega) with h | h | h
      · skip
        have HD : Hid (IntKind.u32.wrap (((b.slot / 24 : Nat) : Int) - ((a.slot / 24 : Nat) : Int)) = 0) := Lib.hid (by have := BA.out; have := BB.out; rw [IntKind.wrap_u32]; omega)
        obtain ⟨bb, hbb⟩ : ∃ bb : Bool, bb = true ↔ b.now.lock = a.now.lock := ⟨decide _, decide_eq_true_iff⟩
        have HB := Lib.hid hbb
        have HQ : Hid (v = bb) := Lib.hid (by rw [HN.out]; exact Bool.eq_iff_iff.2 (decide_eq_true_iff.trans ((near_at0 h).trans hbb.symm)))
        clear hbb
        clear h HN ht
        refine wp_region_quiet (C := fun w' => Below y51.heap.size y51 w') (by kernel_rfl) (by kernel_rfl) ((Below.refl _ _).drew) ?_
        rw [List.toList_toArray]
        refine q_value 16 rfl (.pointer (some ⟨Y, 96, none⟩)) (by kernel_rfl) (fun w' _ => by kernel_rfl) ?_
        simp only [Act.put, List.setIfInBounds_toArray, List.set_cons_zero, List.set_cons_succ]
        refine q_value 17 rfl (.int .u32 (b.slot : Int)) (by kernel_rfl) (fun w' hC => run_op_load1 _ _ rfl (.int .u32) (by kernel_rfl) rfl ⟨Y, 96, none⟩ rfl (.int .u32 (b.slot : Int)) ((rY51.old hC).cell (s_slot KB.out).get)) ?_
        simp only [Act.put, List.setIfInBounds_toArray, List.set_cons_zero, List.set_cons_succ]
        refine q_call 18 rfl (.int .u32 ((b.slot / 24 : Nat) : Int)) 42 #[.int .u32 (b.slot : Int)] (by kernel_rfl) (fun w' _ => run_op_call _ _ _ rfl _ (by simp only [List.map_toArray, List.map_cons, List.map_nil]; rfl) Tryz.func42 (by kernel_rfl) (by kernel_rfl) w') (fun w' hC => (CE.out b w' KB.out).mono fun e w'' h => ⟨h.1, below_step hC hC.size h.2⟩) ?_
        simp only [Act.put, List.setIfInBounds_toArray, List.set_cons_zero, List.set_cons_succ]
        refine q_value 19 rfl (.pointer (some ⟨E, 96, none⟩)) (by kernel_rfl) (fun w' _ => by kernel_rfl) ?_
        simp only [Act.put, List.setIfInBounds_toArray, List.set_cons_zero, List.set_cons_succ]
        refine q_value 20 rfl (.int .u32 (a.slot : Int)) (by kernel_rfl) (fun w' hC => run_op_load1 _ _ rfl (.int .u32) (by kernel_rfl) rfl ⟨E, 96, none⟩ rfl (.int .u32 (a.slot : Int)) ((rE51.old hC).cell (s_slot KA.out).get)) ?_
        simp only [Act.put, List.setIfInBounds_toArray, List.set_cons_zero, List.set_cons_succ]
        refine q_call 21 rfl (.int .u32 ((a.slot / 24 : Nat) : Int)) 42 #[.int .u32 (a.slot : Int)] (by kernel_rfl) (fun w' _ => run_op_call _ _ _ rfl _ (by simp only [List.map_toArray, List.map_cons, List.map_nil]; rfl) Tryz.func42 (by kernel_rfl) (by kernel_rfl) w') (fun w' hC => (CE.out a w' KA.out).mono fun e w'' h => ⟨h.1, below_step hC hC.size h.2⟩) ?_
        simp only [Act.put, List.setIfInBounds_toArray, List.set_cons_zero, List.set_cons_succ]
        refine q_value 22 rfl (.int .u32 0) (by kernel_rfl) (fun w' _ => run_op_sub32 _ _ _ _ rfl _ _ _ rfl rfl HD.out w') ?_
        simp only [Act.put, List.setIfInBounds_toArray, List.set_cons_zero, List.set_cons_succ]
        refine wpQuiet_nil ?_
        intro w2 hC
        have xE := rE51.old hC; have xY := rY51.old hC; have belE := below_step bel51 bel51.size hC
        clear hC rE51 rY51 bel51
        go_wp2_with (first
          | ((with_reducible refine at_slot 28 ?_); (refine arm_load (o := ⟨some 28, _, _, _, _, _⟩) rfl _ _ rfl Y 201 rfl (u8s b.now.lock) ((show Has (scs b) 201 (u8s b.now.lock) from s_nlock KB.out).range (xY)) (szH KB.out.now.lock) ?_))
          | ((with_reducible refine at_slot 32 ?_); (refine arm_load (o := ⟨some 32, _, _, _, _, _⟩) rfl _ _ rfl E 201 rfl (u8s a.now.lock) ((show Has (scs a) 201 (u8s a.now.lock) from s_nlock KA.out).range (xE)) (szH KA.out.now.lock) ?_))
          | ((with_reducible refine at_slot 33 ?_); (refine arm_want (.bool bb) 33 rfl (by kernel_rfl) (run_op_eqlD KB.out.now.lock KA.out.now.lock _ _ _ rfl rfl rfl bb HB.out _) ?_)))
        rw [HQ.out]
        go_ret
        exact ⟨rfl, belE⟩
      · skip
        have HD : Hid (IntKind.u32.wrap (((b.slot / 24 : Nat) : Int) - ((a.slot / 24 : Nat) : Int)) = 1) := Lib.hid (by have := BA.out; have := BB.out; rw [IntKind.wrap_u32]; omega)
        have CLe := Lib.hid (fun w0 => CL.out a w0 KA.out); clear CL
        by_cases hl : a.slot % 24 < 16
        · rw [decide_eq_true hl] at CLe
          have HQ : Hid (v = false) := Lib.hid (by rw [HN.out]; exact decide_eq_false (fun g => by have := ((near_at1 h).1 g).1; omega))
          clear h hl HN ht
          refine wp_region_quiet (C := fun w' => Below y51.heap.size y51 w') (by kernel_rfl) (by kernel_rfl) ((Below.refl _ _).drew) ?_
          rw [List.toList_toArray]
          refine q_value 16 rfl (.pointer (some ⟨Y, 96, none⟩)) (by kernel_rfl) (fun w' _ => by kernel_rfl) ?_
          simp only [Act.put, List.setIfInBounds_toArray, List.set_cons_zero, List.set_cons_succ]
          refine q_value 17 rfl (.int .u32 (b.slot : Int)) (by kernel_rfl) (fun w' hC => run_op_load1 _ _ rfl (.int .u32) (by kernel_rfl) rfl ⟨Y, 96, none⟩ rfl (.int .u32 (b.slot : Int)) ((rY51.old hC).cell (s_slot KB.out).get)) ?_
          simp only [Act.put, List.setIfInBounds_toArray, List.set_cons_zero, List.set_cons_succ]
          refine q_call 18 rfl (.int .u32 ((b.slot / 24 : Nat) : Int)) 42 #[.int .u32 (b.slot : Int)] (by kernel_rfl) (fun w' _ => run_op_call _ _ _ rfl _ (by simp only [List.map_toArray, List.map_cons, List.map_nil]; rfl) Tryz.func42 (by kernel_rfl) (by kernel_rfl) w') (fun w' hC => (CE.out b w' KB.out).mono fun e w'' h => ⟨h.1, below_step hC hC.size h.2⟩) ?_
          simp only [Act.put, List.setIfInBounds_toArray, List.set_cons_zero, List.set_cons_succ]
          refine q_value 19 rfl (.pointer (some ⟨E, 96, none⟩)) (by kernel_rfl) (fun w' _ => by kernel_rfl) ?_
          simp only [Act.put, List.setIfInBounds_toArray, List.set_cons_zero, List.set_cons_succ]
          refine q_value 20 rfl (.int .u32 (a.slot : Int)) (by kernel_rfl) (fun w' hC => run_op_load1 _ _ rfl (.int .u32) (by kernel_rfl) rfl ⟨E, 96, none⟩ rfl (.int .u32 (a.slot : Int)) ((rE51.old hC).cell (s_slot KA.out).get)) ?_
          simp only [Act.put, List.setIfInBounds_toArray, List.set_cons_zero, List.set_cons_succ]
          refine q_call 21 rfl (.int .u32 ((a.slot / 24 : Nat) : Int)) 42 #[.int .u32 (a.slot : Int)] (by kernel_rfl) (fun w' _ => run_op_call _ _ _ rfl _ (by simp only [List.map_toArray, List.map_cons, List.map_nil]; rfl) Tryz.func42 (by kernel_rfl) (by kernel_rfl) w') (fun w' hC => (CE.out a w' KA.out).mono fun e w'' h => ⟨h.1, below_step hC hC.size h.2⟩) ?_
          simp only [Act.put, List.setIfInBounds_toArray, List.set_cons_zero, List.set_cons_succ]
          refine q_value 22 rfl (.int .u32 1) (by kernel_rfl) (fun w' _ => run_op_sub32 _ _ _ _ rfl _ _ _ rfl rfl HD.out w') ?_
          simp only [Act.put, List.setIfInBounds_toArray, List.set_cons_zero, List.set_cons_succ]
          refine wpQuiet_nil ?_
          intro w2 hC
          have xE := rE51.old hC; have xY := rY51.old hC; have belE := below_step bel51 bel51.size hC
          clear hC rE51 rY51 bel51
          go_wp2_with (first
            | ((with_reducible refine at_slot 37 ?_); (refine arm_want (.int .u32 (a.slot : Int)) 37 rfl (by kernel_rfl) (run_op_load1 _ _ rfl (.int .u32) (by kernel_rfl) rfl ⟨E, 96, none⟩ rfl (.int .u32 (a.slot : Int)) (xE.cell (show Has (scs a) 96 [.int .u32 (a.slot : Int)] from s_slot KA.out).get)) ?_)))
          refine (CLe.out _).mono ?_
          rintro e y52 ⟨rfl, hB⟩
          have rE52 : Row y52 E 35 (scs a) := xE.old hB
          have rY52 : Row y52 Y 35 (scs b) := xY.old hB
          have bel52 : Below w.heap.size w y52 := below_step belE belE.size hB
          clear hB xE xY belE
          go_wp2_with fail
          rw [HQ.out]
          go_ret
          exact ⟨rfl, bel52⟩
        · rw [decide_eq_false hl] at CLe
          obtain ⟨bb, hbb⟩ : ∃ bb : Bool, bb = true ↔ b.now.lock = a.next.lock := ⟨decide _, decide_eq_true_iff⟩
          have HB := Lib.hid hbb
          have HQ : Hid (v = bb) := Lib.hid (by rw [HN.out]; exact Bool.eq_iff_iff.2 (decide_eq_true_iff.trans ((near_at1 h).trans ⟨fun g => hbb.2 g.2, fun g => ⟨by omega, hbb.1 g⟩⟩)))
          clear hbb
          clear h hl HN ht
          refine wp_region_quiet (C := fun w' => Below y51.heap.size y51 w') (by kernel_rfl) (by kernel_rfl) ((Below.refl _ _).drew) ?_
          rw [List.toList_toArray]
          refine q_value 16 rfl (.pointer (some ⟨Y, 96, none⟩)) (by kernel_rfl) (fun w' _ => by kernel_rfl) ?_
          simp only [Act.put, List.setIfInBounds_toArray, List.set_cons_zero, List.set_cons_succ]
          refine q_value 17 rfl (.int .u32 (b.slot : Int)) (by kernel_rfl) (fun w' hC => run_op_load1 _ _ rfl (.int .u32) (by kernel_rfl) rfl ⟨Y, 96, none⟩ rfl (.int .u32 (b.slot : Int)) ((rY51.old hC).cell (s_slot KB.out).get)) ?_
          simp only [Act.put, List.setIfInBounds_toArray, List.set_cons_zero, List.set_cons_succ]
          refine q_call 18 rfl (.int .u32 ((b.slot / 24 : Nat) : Int)) 42 #[.int .u32 (b.slot : Int)] (by kernel_rfl) (fun w' _ => run_op_call _ _ _ rfl _ (by simp only [List.map_toArray, List.map_cons, List.map_nil]; rfl) Tryz.func42 (by kernel_rfl) (by kernel_rfl) w') (fun w' hC => (CE.out b w' KB.out).mono fun e w'' h => ⟨h.1, below_step hC hC.size h.2⟩) ?_
          simp only [Act.put, List.setIfInBounds_toArray, List.set_cons_zero, List.set_cons_succ]
          refine q_value 19 rfl (.pointer (some ⟨E, 96, none⟩)) (by kernel_rfl) (fun w' _ => by kernel_rfl) ?_
          simp only [Act.put, List.setIfInBounds_toArray, List.set_cons_zero, List.set_cons_succ]
          refine q_value 20 rfl (.int .u32 (a.slot : Int)) (by kernel_rfl) (fun w' hC => run_op_load1 _ _ rfl (.int .u32) (by kernel_rfl) rfl ⟨E, 96, none⟩ rfl (.int .u32 (a.slot : Int)) ((rE51.old hC).cell (s_slot KA.out).get)) ?_
          simp only [Act.put, List.setIfInBounds_toArray, List.set_cons_zero, List.set_cons_succ]
          refine q_call 21 rfl (.int .u32 ((a.slot / 24 : Nat) : Int)) 42 #[.int .u32 (a.slot : Int)] (by kernel_rfl) (fun w' _ => run_op_call _ _ _ rfl _ (by simp only [List.map_toArray, List.map_cons, List.map_nil]; rfl) Tryz.func42 (by kernel_rfl) (by kernel_rfl) w') (fun w' hC => (CE.out a w' KA.out).mono fun e w'' h => ⟨h.1, below_step hC hC.size h.2⟩) ?_
          simp only [Act.put, List.setIfInBounds_toArray, List.set_cons_zero, List.set_cons_succ]
          refine q_value 22 rfl (.int .u32 1) (by kernel_rfl) (fun w' _ => run_op_sub32 _ _ _ _ rfl _ _ _ rfl rfl HD.out w') ?_
          simp only [Act.put, List.setIfInBounds_toArray, List.set_cons_zero, List.set_cons_succ]
          refine wpQuiet_nil ?_
          intro w2 hC
          have xE := rE51.old hC; have xY := rY51.old hC; have belE := below_step bel51 bel51.size hC
          clear hC rE51 rY51 bel51
          go_wp2_with (first
            | ((with_reducible refine at_slot 37 ?_); (refine arm_want (.int .u32 (a.slot : Int)) 37 rfl (by kernel_rfl) (run_op_load1 _ _ rfl (.int .u32) (by kernel_rfl) rfl ⟨E, 96, none⟩ rfl (.int .u32 (a.slot : Int)) (xE.cell (show Has (scs a) 96 [.int .u32 (a.slot : Int)] from s_slot KA.out).get)) ?_)))
          refine (CLe.out _).mono ?_
          rintro e y52 ⟨rfl, hB⟩
          have rE52 : Row y52 E 35 (scs a) := xE.old hB
          have rY52 : Row y52 Y 35 (scs b) := xY.old hB
          have bel52 : Below w.heap.size w y52 := below_step belE belE.size hB
          clear hB xE xY belE
          go_wp2_with (first
            | ((with_reducible refine at_slot 44 ?_); (refine arm_want (.agg (u8s b.now.lock).toArray) 44 rfl (by kernel_rfl) (run_op_load _ _ rfl Y 201 rfl (u8s b.now.lock) ((show Has (scs b) 201 (u8s b.now.lock) from s_nlock KB.out).range (rY52)) ((szH KB.out.now.lock))) ?_))
            | ((with_reducible refine at_slot 48 ?_); (refine arm_want (.agg (u8s a.next.lock).toArray) 48 rfl (by kernel_rfl) (run_op_load _ _ rfl E 330 rfl (u8s a.next.lock) ((show Has (scs a) 330 (u8s a.next.lock) from s_xlock KA.out).range (rE52)) ((szH KA.out.next.lock))) ?_))
            | ((with_reducible refine at_slot 49 ?_); (refine arm_want (.bool bb) 49 rfl (by kernel_rfl) (run_op_eqlD KB.out.now.lock KA.out.next.lock _ _ _ rfl rfl rfl bb HB.out _) ?_)))
          rw [HQ.out]
          go_ret
          exact ⟨rfl, bel52⟩
      · skip
        obtain ⟨D, hD⟩ : ∃ D : Nat, D = b.slot / 24 - a.slot / 24 := ⟨_, rfl⟩
        have HD : Hid (IntKind.u32.wrap (((b.slot / 24 : Nat) : Int) - ((a.slot / 24 : Nat) : Int)) = (D : Int)) := Lib.hid (by have := BA.out; have := BB.out; rw [IntKind.wrap_u32]; omega)
        have HQ : Hid (v = false) := Lib.hid (by rw [HN.out]; exact decide_eq_false (near_at2 h))
        have g2 : 2 ≤ D := by omega
        have d0 : ((D : Int) == 0) = false := beq_eq_false_iff_ne.2 (by omega)
        have d1 : ((D : Int) == 1) = false := beq_eq_false_iff_ne.2 (by omega)
        have d2 : decide ((D : Int) = 0) = false := decide_eq_false (by omega)
        have d3 : decide ((D : Int) = 1) = false := decide_eq_false (by omega)
        have d4 : ¬ D = 0 := by omega
        have d5 : ¬ D = 1 := by omega
        have d6 : (D == 0) = false := beq_eq_false_iff_ne.2 (by omega)
        have d7 : (D == 1) = false := beq_eq_false_iff_ne.2 (by omega)
        clear h hD HN ht g2
        refine wp_region_quiet (C := fun w' => Below y51.heap.size y51 w') (by kernel_rfl) (by kernel_rfl) ((Below.refl _ _).drew) ?_
        rw [List.toList_toArray]
        refine q_value 16 rfl (.pointer (some ⟨Y, 96, none⟩)) (by kernel_rfl) (fun w' _ => by kernel_rfl) ?_
        simp only [Act.put, List.setIfInBounds_toArray, List.set_cons_zero, List.set_cons_succ]
        refine q_value 17 rfl (.int .u32 (b.slot : Int)) (by kernel_rfl) (fun w' hC => run_op_load1 _ _ rfl (.int .u32) (by kernel_rfl) rfl ⟨Y, 96, none⟩ rfl (.int .u32 (b.slot : Int)) ((rY51.old hC).cell (s_slot KB.out).get)) ?_
        simp only [Act.put, List.setIfInBounds_toArray, List.set_cons_zero, List.set_cons_succ]
        refine q_call 18 rfl (.int .u32 ((b.slot / 24 : Nat) : Int)) 42 #[.int .u32 (b.slot : Int)] (by kernel_rfl) (fun w' _ => run_op_call _ _ _ rfl _ (by simp only [List.map_toArray, List.map_cons, List.map_nil]; rfl) Tryz.func42 (by kernel_rfl) (by kernel_rfl) w') (fun w' hC => (CE.out b w' KB.out).mono fun e w'' h => ⟨h.1, below_step hC hC.size h.2⟩) ?_
        simp only [Act.put, List.setIfInBounds_toArray, List.set_cons_zero, List.set_cons_succ]
        refine q_value 19 rfl (.pointer (some ⟨E, 96, none⟩)) (by kernel_rfl) (fun w' _ => by kernel_rfl) ?_
        simp only [Act.put, List.setIfInBounds_toArray, List.set_cons_zero, List.set_cons_succ]
        refine q_value 20 rfl (.int .u32 (a.slot : Int)) (by kernel_rfl) (fun w' hC => run_op_load1 _ _ rfl (.int .u32) (by kernel_rfl) rfl ⟨E, 96, none⟩ rfl (.int .u32 (a.slot : Int)) ((rE51.old hC).cell (s_slot KA.out).get)) ?_
        simp only [Act.put, List.setIfInBounds_toArray, List.set_cons_zero, List.set_cons_succ]
        refine q_call 21 rfl (.int .u32 ((a.slot / 24 : Nat) : Int)) 42 #[.int .u32 (a.slot : Int)] (by kernel_rfl) (fun w' _ => run_op_call _ _ _ rfl _ (by simp only [List.map_toArray, List.map_cons, List.map_nil]; rfl) Tryz.func42 (by kernel_rfl) (by kernel_rfl) w') (fun w' hC => (CE.out a w' KA.out).mono fun e w'' h => ⟨h.1, below_step hC hC.size h.2⟩) ?_
        simp only [Act.put, List.setIfInBounds_toArray, List.set_cons_zero, List.set_cons_succ]
        refine q_value 22 rfl (.int .u32 (D : Int)) (by kernel_rfl) (fun w' _ => run_op_sub32 _ _ _ _ rfl _ _ _ rfl rfl HD.out w') ?_
        simp only [Act.put, List.setIfInBounds_toArray, List.set_cons_zero, List.set_cons_succ]
        refine wpQuiet_nil ?_
        intro w2 hC
        have xE := rE51.old hC; have xY := rY51.old hC; have belE := below_step bel51 bel51.size hC
        clear hC rE51 rY51 bel51
        go_wp2_with (first
          | ((with_reducible refine at_slot 24 ?_); (refine arm_want (.bool false) 24 rfl (by kernel_rfl) (cmp_eql _ _ .u32 (by kernel_rfl) _ _ rfl .u32 (D : Int) 0 rfl rfl false d2 _) ?_))
          | ((with_reducible refine at_slot 35 ?_); (refine arm_want (.bool false) 35 rfl (by kernel_rfl) (cmp_eql _ _ .u32 (by kernel_rfl) _ _ rfl .u32 (D : Int) 1 rfl rfl false d3 _) ?_)))
        rw [HQ.out]
        go_ret
        exact ⟨rfl, belE⟩
theorem rel_sta (s : Sta) (t : Nat) (w : World) (k : s.Ok) (r : SRt s) (ht : t < 4294967296) :
    Calls Tryz.prog 39 #[.agg (wcs s.min s.last s.counts).toArray, .int .u32 (t : Int)] w fun e w' => e = .returned (.int .u32 ((denN s t : Nat) : Int)) ∧ Below w.heap.size w w' :=
  Wn.wrel_any s.min s.last t s.counts w k.min k.last ht r.1.2 k.counts
theorem max_as (a b : Sta) : (if (a.slot : Int) < (b.slot : Int) then (b.slot : Int) else (a.slot : Int)) = (asN a b : Int) := by
  unfold asN
  split <;> split <;> omega
set_option maxHeartbeats 4000000 in
set_option maxRecDepth 100000 in
theorem densM_any (a b : Sta) (w : World) (ka : a.Ok) (kb : b.Ok) (ra : SRt a) (rb : SRt b) :
    Calls Tryz.prog 18 #[.agg (rl a b).toArray] w fun e w' => e = .returned (.tuple #[.int .u32 ((denN a (asN a b) : Nat) : Int), .int .u32 ((denN b (asN a b) : Nat) : Int)]) ∧ Below w.heap.size w w' := by
  have KA := Lib.hid ka; have KB := Lib.hid kb
  have HM := Lib.hid (max_as a b)
  have CA := Lib.hid (fun w0 => rel_sta a (asN a b) w0 ka ra (asN_lt ka.slot kb.slot))
  have CB := Lib.hid (fun w0 => rel_sta b (asN a b) w0 kb rb (asN_lt ka.slot kb.slot))
  generalize denN a (asN a b) = x at CA ⊢
  generalize denN b (asN a b) = y at CB ⊢
  generalize asN a b = t at CA CB HM
  clear ka kb ra rb
  go_enter Tryz.func18, Tryz.ntmps18
  go_wp2_with (first
    | ((with_reducible refine at_slot 1 ?_); (refine arm_box (o := ⟨some 1, _, _, _, _, _⟩) rfl _ _ rfl (rl a b) rfl ?_); intro R v1 Re hv1 nv1)
    | ((with_reducible refine at_slot 7 ?_); (refine arm_want (.int .u32 (a.slot : Int)) 7 rfl (by kernel_rfl) (run_op_load1 _ _ rfl (.int .u32) (by kernel_rfl) rfl ⟨R, 96, none⟩ rfl (.int .u32 (a.slot : Int)) (hv1.cell (show Has (rl a b) 96 [.int .u32 (a.slot : Int)] from (by have := has_trans (r_one a b) (s_slot KA.out); rwa [Nat.zero_add] at this)).get)) ?_))
    | ((with_reducible refine at_slot 10 ?_); (refine arm_want (.int .u32 (b.slot : Int)) 10 rfl (by kernel_rfl) (run_op_load1 _ _ rfl (.int .u32) (by kernel_rfl) rfl ⟨R, 459, none⟩ rfl (.int .u32 (b.slot : Int)) (hv1.cell (show Has (rl a b) 459 [.int .u32 (b.slot : Int)] from has_trans (r_other KA.out) (s_slot KB.out)).get)) ?_))
    | ((with_reducible refine at_slot 11 ?_); (refine Rg.arm_max (o := ⟨some 11, _, _, _, _, _⟩) rfl _ _ _ rfl .u32 (a.slot : Int) (b.slot : Int) rfl rfl t HM.out ?_)))
  have q0 := Re.out
  have q1 := nv1.size
  have lR : w.heap.size ≤ R := by omega
  have rR2 : Row v1 R 67 (rl a b) := hv1
  have bel2 : Below w.heap.size w v1 := (below_step (Below.refl _ _) (by omega) nv1.below)
  clear q0 q1 Re hv1 nv1
  refine wp_region_quiet (C := fun w' => Below v1.heap.size v1 w') (by kernel_rfl) (by kernel_rfl) ((Below.refl _ _).drew) ?_
  rw [List.toList_toArray]
  refine q_value 12 rfl (.pointer (some ⟨R, 0, none⟩)) (by kernel_rfl) (fun w' _ => by kernel_rfl) ?_
  simp only [Act.put, List.setIfInBounds_toArray, List.set_cons_zero, List.set_cons_succ]
  refine q_value 13 rfl (.pointer (some ⟨R, 99, none⟩)) (by kernel_rfl) (fun w' _ => by kernel_rfl) ?_
  simp only [Act.put, List.setIfInBounds_toArray, List.set_cons_zero, List.set_cons_succ]
  refine q_value 14 rfl (.agg (wcs a.min a.last a.counts).toArray) (by kernel_rfl) (fun w' hC => run_op_load _ _ rfl R 99 rfl (wcs a.min a.last a.counts) ((show Has (rl a b) 99 _ by have := has_trans (r_one a b) (s_win KA.out); rwa [Nat.zero_add] at this).range (rR2.old hC)) (Wn.sz_win KA.out.counts)) ?_
  simp only [Act.put, List.setIfInBounds_toArray, List.set_cons_zero, List.set_cons_succ]
  refine q_value 15 rfl (.int .u32 (t : Int)) (by kernel_rfl) (fun w' _ => by kernel_rfl) ?_
  simp only [Act.put, List.setIfInBounds_toArray, List.set_cons_zero, List.set_cons_succ]
  refine q_call 16 rfl (.int .u32 (x : Int)) 39 #[.agg (wcs a.min a.last a.counts).toArray, .int .u32 (t : Int)] (by kernel_rfl) (fun w' _ => run_op_call _ _ _ rfl _ (by simp only [List.map_toArray, List.map_cons, List.map_nil]; rfl) Tryz.func39 (by kernel_rfl) (by kernel_rfl) w') (fun w' hC => (CA.out w').mono fun e w'' h => ⟨h.1, below_step hC hC.size h.2⟩) ?_
  simp only [Act.put, List.setIfInBounds_toArray, List.set_cons_zero, List.set_cons_succ]
  refine q_value 17 rfl (.pointer (some ⟨R, 363, none⟩)) (by kernel_rfl) (fun w' _ => by kernel_rfl) ?_
  simp only [Act.put, List.setIfInBounds_toArray, List.set_cons_zero, List.set_cons_succ]
  refine q_value 18 rfl (.pointer (some ⟨R, 462, none⟩)) (by kernel_rfl) (fun w' _ => by kernel_rfl) ?_
  simp only [Act.put, List.setIfInBounds_toArray, List.set_cons_zero, List.set_cons_succ]
  refine q_value 19 rfl (.agg (wcs b.min b.last b.counts).toArray) (by kernel_rfl) (fun w' hC => run_op_load _ _ rfl R 462 rfl (wcs b.min b.last b.counts) ((show Has (rl a b) 462 _ from has_trans (r_other KA.out) (s_win KB.out)).range (rR2.old hC)) (Wn.sz_win KB.out.counts)) ?_
  simp only [Act.put, List.setIfInBounds_toArray, List.set_cons_zero, List.set_cons_succ]
  refine q_value 20 rfl (.int .u32 (t : Int)) (by kernel_rfl) (fun w' _ => by kernel_rfl) ?_
  simp only [Act.put, List.setIfInBounds_toArray, List.set_cons_zero, List.set_cons_succ]
  refine q_call 21 rfl (.int .u32 (y : Int)) 39 #[.agg (wcs b.min b.last b.counts).toArray, .int .u32 (t : Int)] (by kernel_rfl) (fun w' _ => run_op_call _ _ _ rfl _ (by simp only [List.map_toArray, List.map_cons, List.map_nil]; rfl) Tryz.func39 (by kernel_rfl) (by kernel_rfl) w') (fun w' hC => (CB.out w').mono fun e w'' h => ⟨h.1, below_step hC hC.size h.2⟩) ?_
  simp only [Act.put, List.setIfInBounds_toArray, List.set_cons_zero, List.set_cons_succ]
  refine q_value 2 rfl (.int .u32 (x : Int)) (by kernel_rfl) (fun w' _ => by kernel_rfl) ?_
  simp only [Act.put, List.setIfInBounds_toArray, List.set_cons_zero, List.set_cons_succ]
  refine q_value 3 rfl (.int .u32 (y : Int)) (by kernel_rfl) (fun w' _ => by kernel_rfl) ?_
  simp only [Act.put, List.setIfInBounds_toArray, List.set_cons_zero, List.set_cons_succ]
  refine wpQuiet_nil ?_
  intro w2 hC
  go_wp2_with fail
  go_ret2
  exact ⟨rfl, below_step bel2 bel2.size hC⟩
set_option maxHeartbeats 4000000 in
set_option maxRecDepth 100000 in
theorem rises_any (a b : Sta) (w : World) (ka : a.Ok) (kb : b.Ok) (hk : w.rangeAt 0 0 (u32s ks)) :
    Calls Tryz.prog 44 #[.agg (rl a b).toArray] w fun e w' => e = .returned (.bool (decide (kn a < kn b))) ∧ Below w.heap.size w w' := by
  have hk1 : 0 < w.heap.size := range_lt hk (by simp [u32s, ks])
  have HKW : Hid (∀ w', Below w.heap.size w w' → w'.rangeAt 0 0 (u32s ks)) := Lib.hid fun w' hb => range_block hk (hb.block _ hk1)
  have KA := Lib.hid ka; have KB := Lib.hid kb
  have CA := Lib.hid (fun w0 h => Od.of_any a w0 ka h)
  have CB := Lib.hid (fun w0 h => Od.of_any b w0 kb h)
  have CC := Lib.hid (fun w0 => Od.compare_any (keyN a) (keyN b) w0 (keyN_ok ka) (keyN_ok kb))
  have HZ : Hid (decide (kcmp (keyN a) (keyN b) < 0) = decide (kn a < kn b)) := Lib.hid (decide_eq_decide.2 cmpN_neg)
  generalize decide (kn a < kn b) = v at HZ ⊢
  generalize kcmp (keyN a) (keyN b) = z at HZ CC
  generalize keyN a = x at CA CC
  generalize keyN b = y at CB CC
  clear ka kb hk hk1
  go_enter Tryz.func44, Tryz.ntmps44
  go_wp2_with (first
    | ((with_reducible refine at_slot 1 ?_); (refine arm_box (o := ⟨some 1, _, _, _, _, _⟩) rfl _ _ rfl (rl a b) rfl ?_); intro R v1 Re hv1 nv1))
  have q0 := Re.out
  have q1 := nv1.size
  have lR : w.heap.size ≤ R := by omega
  have rR2 : Row v1 R 67 (rl a b) := hv1
  have bel2 : Below w.heap.size w v1 := (below_step (Below.refl _ _) (by omega) nv1.below)
  clear q0 q1 Re hv1 nv1
  refine wp_region_quiet (C := fun w' => Below v1.heap.size v1 w') (by kernel_rfl) (by kernel_rfl) ((Below.refl _ _).drew) ?_
  rw [List.toList_toArray]
  refine q_value 3 rfl (.pointer (some ⟨R, 0, none⟩)) (by kernel_rfl) (fun w' _ => by kernel_rfl) ?_
  simp only [Act.put, List.setIfInBounds_toArray, List.set_cons_zero, List.set_cons_succ]
  refine q_value 4 rfl (.agg (scs a).toArray) (by kernel_rfl) (fun w' hC => run_op_load _ _ rfl R 0 rfl (scs a) ((r_one a b).range (rR2.old hC)) (sz_sta KA.out)) ?_
  simp only [Act.put, List.setIfInBounds_toArray, List.set_cons_zero, List.set_cons_succ]
  refine q_call 5 rfl (.agg (kcs x).toArray) 60 #[.agg (scs a).toArray] (by kernel_rfl) (fun w' _ => run_op_call _ _ _ rfl _ (by simp only [List.map_toArray, List.map_cons, List.map_nil]; rfl) Tryz.func60 (by kernel_rfl) (by kernel_rfl) w') (fun w' hC => (CA.out w' (HKW.out _ (below_step bel2 bel2.size hC))).mono fun e w'' h => ⟨h.1, below_step hC hC.size h.2⟩) ?_
  simp only [Act.put, List.setIfInBounds_toArray, List.set_cons_zero, List.set_cons_succ]
  refine q_value 6 rfl (.pointer (some ⟨R, 363, none⟩)) (by kernel_rfl) (fun w' _ => by kernel_rfl) ?_
  simp only [Act.put, List.setIfInBounds_toArray, List.set_cons_zero, List.set_cons_succ]
  refine q_value 7 rfl (.agg (scs b).toArray) (by kernel_rfl) (fun w' hC => run_op_load _ _ rfl R 363 rfl (scs b) ((r_other KA.out).range (rR2.old hC)) (sz_sta KB.out)) ?_
  simp only [Act.put, List.setIfInBounds_toArray, List.set_cons_zero, List.set_cons_succ]
  refine q_call 8 rfl (.agg (kcs y).toArray) 60 #[.agg (scs b).toArray] (by kernel_rfl) (fun w' _ => run_op_call _ _ _ rfl _ (by simp only [List.map_toArray, List.map_cons, List.map_nil]; rfl) Tryz.func60 (by kernel_rfl) (by kernel_rfl) w') (fun w' hC => (CB.out w' (HKW.out _ (below_step bel2 bel2.size hC))).mono fun e w'' h => ⟨h.1, below_step hC hC.size h.2⟩) ?_
  simp only [Act.put, List.setIfInBounds_toArray, List.set_cons_zero, List.set_cons_succ]
  refine q_call 9 rfl (.int .i64 z) 59 #[.agg (kcs x).toArray, .agg (kcs y).toArray] (by kernel_rfl) (fun w' _ => run_op_call _ _ _ rfl _ (by simp only [List.map_toArray, List.map_cons, List.map_nil]; rfl) Tryz.func59 (by kernel_rfl) (by kernel_rfl) w') (fun w' hC => (CC.out w').mono fun e w'' h => ⟨h.1, below_step hC hC.size h.2⟩) ?_
  simp only [Act.put, List.setIfInBounds_toArray, List.set_cons_zero, List.set_cons_succ]
  refine q_value 10 rfl (.bool v) (by kernel_rfl) (fun w' _ => cmp_lss _ _ _ _ rfl .i64 z 0 rfl rfl v HZ.out w') ?_
  simp only [Act.put, List.setIfInBounds_toArray, List.set_cons_zero, List.set_cons_succ]
  refine q_value 2 rfl (.bool v) (by kernel_rfl) (fun w' _ => by kernel_rfl) ?_
  simp only [Act.put, List.setIfInBounds_toArray, List.set_cons_zero, List.set_cons_succ]
  refine wpQuiet_nil ?_
  intro w2 hC
  go_wp2_with fail
  go_ret
  exact ⟨rfl, below_step bel2 bel2.size hC⟩
set_option maxHeartbeats 4000000 in
set_option maxRecDepth 100000 in
theorem winsM_any (a b : Sta) (n : Nat) (w : World) (ka : a.Ok) (kb : b.Ok) (ra : SRt a) (rb : SRt b) (hk : w.rangeAt 0 0 (u32s ks)) :
    Calls Tryz.prog 24 #[.agg (cl a b n).toArray] w fun e w' => e = .returned (.bool (decide (winP a b))) ∧ Below w.heap.size w w' := by
  have hk1 : 0 < w.heap.size := range_lt hk (by simp [u32s, ks])
  have HKW : Hid (∀ w', Below w.heap.size w w' → w'.rangeAt 0 0 (u32s ks)) := Lib.hid fun w' hb => range_block hk (hb.block _ hk1)
  have KA := Lib.hid ka; have KB := Lib.hid kb
  have CN := Lib.hid (fun w0 => nearM_any a b w0 ka kb)
  have CD := Lib.hid (fun w0 => densM_any a b w0 ka kb ra rb)
  have CR := Lib.hid (fun w0 h => rises_any a b w0 ka kb h)
  have WN := Lib.hid (@win_near a b); have WF := Lib.hid (@win_far a b)
  obtain ⟨v, hv⟩ : ∃ v, v = decide (winP a b) := ⟨_, rfl⟩
  rw [← hv]
  have HV := Lib.hid hv
  clear hv ka kb ra rb hk hk1
  by_cases hn : nearP a b
  · rw [decide_eq_true hn] at CN
    have HQ : Hid (v = decide (kn a < kn b)) := Lib.hid (by rw [HV.out]; exact decide_eq_decide.2 (WN.out hn))
    generalize decide (kn a < kn b) = u at HQ CR
    clear hn HV WN WF CD
    go_enter Tryz.func24, Tryz.ntmps24
    go_wp2_with (first
      | ((with_reducible refine at_slot 1 ?_); (refine arm_box (o := ⟨some 1, _, _, _, _, _⟩) rfl _ _ rfl (cl a b n) rfl ?_); intro C v1 Ce hv1 nv1)
      | ((with_reducible refine at_slot 6 ?_); (refine arm_load (o := ⟨some 6, _, _, _, _, _⟩) rfl _ _ rfl C 0 rfl (rl a b) ((show Has (cl a b n) 0 (rl a b) from c_rel a b n).range (hv1)) (sz_rel KA.out KB.out) ?_)))
    have q0 := Ce.out
    have q1 := nv1.size
    have lC : w.heap.size ≤ C := by omega
    have rC2 : Row v1 C 71 (cl a b n) := hv1
    have bel2 : Below w.heap.size w v1 := (below_step (Below.refl _ _) (by omega) nv1.below)
    clear q0 q1 Ce hv1 nv1
    refine (CN.out _).mono ?_
    rintro e y3 ⟨rfl, hB⟩
    have rC3 : Row y3 C 71 (cl a b n) := rC2.old hB
    have bel3 : Below w.heap.size w y3 := below_step bel2 bel2.size hB
    clear hB rC2 bel2
    go_wp2_with (first
      | ((with_reducible refine at_slot 9 ?_); (refine arm_load (o := ⟨some 9, _, _, _, _, _⟩) rfl _ _ rfl C 0 rfl (rl a b) ((show Has (cl a b n) 0 (rl a b) from c_rel a b n).range (rC3)) (sz_rel KA.out KB.out) ?_)))
    refine (CR.out _ (HKW.out _ bel3)).mono ?_
    rintro e y4 ⟨rfl, hB⟩
    have rC4 : Row y4 C 71 (cl a b n) := rC3.old hB
    have bel4 : Below w.heap.size w y4 := below_step bel3 bel3.size hB
    clear hB rC3 bel3
    go_wp2_with fail
    rw [HQ.out]
    go_ret
    exact ⟨rfl, bel4⟩
  · rw [decide_eq_false hn] at CN
    have WW := Lib.hid (WF.out hn)
    clear hn WN WF
    generalize denN a (asN a b) = x at CD WW
    generalize denN b (asN a b) = y at CD WW
    rcases Nat.lt_trichotomy x y with h | h | h
    · skip
      have HQ : Hid (v = true) := Lib.hid (by rw [HV.out]; exact decide_eq_true (WW.out.2 (.inl h)))
      have d1 : decide ((y : Int) > (x : Int)) = true := decide_eq_true (by omega)
      have d2 : decide ((x : Int) < (y : Int)) = true := decide_eq_true (by omega)
      have d3 : decide ((y : Int) = (x : Int)) = false := decide_eq_false (by omega)
      clear h WW HV
      go_enter Tryz.func24, Tryz.ntmps24
      go_wp2_with (first
        | ((with_reducible refine at_slot 1 ?_); (refine arm_box (o := ⟨some 1, _, _, _, _, _⟩) rfl _ _ rfl (cl a b n) rfl ?_); intro C v1 Ce hv1 nv1)
        | ((with_reducible refine at_slot 6 ?_); (refine arm_load (o := ⟨some 6, _, _, _, _, _⟩) rfl _ _ rfl C 0 rfl (rl a b) ((show Has (cl a b n) 0 (rl a b) from c_rel a b n).range (hv1)) (sz_rel KA.out KB.out) ?_)))
      have q0 := Ce.out
      have q1 := nv1.size
      have lC : w.heap.size ≤ C := by omega
      have rC2 : Row v1 C 71 (cl a b n) := hv1
      have bel2 : Below w.heap.size w v1 := (below_step (Below.refl _ _) (by omega) nv1.below)
      clear q0 q1 Ce hv1 nv1
      refine (CN.out _).mono ?_
      rintro e y3 ⟨rfl, hB⟩
      have rC3 : Row y3 C 71 (cl a b n) := rC2.old hB
      have bel3 : Below w.heap.size w y3 := below_step bel2 bel2.size hB
      clear hB rC2 bel2
      go_wp2_with (first
        | ((with_reducible refine at_slot 13 ?_); (refine arm_load (o := ⟨some 13, _, _, _, _, _⟩) rfl _ _ rfl C 0 rfl (rl a b) ((show Has (cl a b n) 0 (rl a b) from c_rel a b n).range (rC3)) (sz_rel KA.out KB.out) ?_)))
      refine (CD.out _).mono ?_
      rintro e y4 ⟨rfl, hB⟩
      have rC4 : Row y4 C 71 (cl a b n) := rC3.old hB
      have bel4 : Below w.heap.size w y4 := below_step bel3 bel3.size hB
      clear hB rC3 bel3
      go_wp2_with (first
        | ((with_reducible refine at_slot 19 ?_); (refine arm_want (.bool true) 19 rfl (by kernel_rfl) (cmp_gtr _ _ _ _ rfl .u32 (y : Int) (x : Int) rfl rfl true d2 _) ?_)))
      rw [HQ.out]
      go_ret
      exact ⟨rfl, bel4⟩
    · skip
      have HQ : Hid (v = decide (kn a < kn b)) := Lib.hid (by rw [HV.out]; exact decide_eq_decide.2 (WW.out.trans ⟨fun g => by rcases g with g | g <;> omega, fun g => .inr ⟨h.symm, g⟩⟩))
      generalize decide (kn a < kn b) = u at HQ CR
      subst h
      have d1 : decide ((x : Int) > (x : Int)) = false := decide_eq_false (by omega)
      have d2 : decide ((x : Int) < (x : Int)) = false := decide_eq_false (by omega)
      have d3 : decide ((x : Int) = (x : Int)) = true := decide_eq_true (by omega)
      clear WW HV
      go_enter Tryz.func24, Tryz.ntmps24
      go_wp2_with (first
        | ((with_reducible refine at_slot 1 ?_); (refine arm_box (o := ⟨some 1, _, _, _, _, _⟩) rfl _ _ rfl (cl a b n) rfl ?_); intro C v1 Ce hv1 nv1)
        | ((with_reducible refine at_slot 6 ?_); (refine arm_load (o := ⟨some 6, _, _, _, _, _⟩) rfl _ _ rfl C 0 rfl (rl a b) ((show Has (cl a b n) 0 (rl a b) from c_rel a b n).range (hv1)) (sz_rel KA.out KB.out) ?_)))
      have q0 := Ce.out
      have q1 := nv1.size
      have lC : w.heap.size ≤ C := by omega
      have rC2 : Row v1 C 71 (cl a b n) := hv1
      have bel2 : Below w.heap.size w v1 := (below_step (Below.refl _ _) (by omega) nv1.below)
      clear q0 q1 Ce hv1 nv1
      refine (CN.out _).mono ?_
      rintro e y3 ⟨rfl, hB⟩
      have rC3 : Row y3 C 71 (cl a b n) := rC2.old hB
      have bel3 : Below w.heap.size w y3 := below_step bel2 bel2.size hB
      clear hB rC2 bel2
      go_wp2_with (first
        | ((with_reducible refine at_slot 13 ?_); (refine arm_load (o := ⟨some 13, _, _, _, _, _⟩) rfl _ _ rfl C 0 rfl (rl a b) ((show Has (cl a b n) 0 (rl a b) from c_rel a b n).range (rC3)) (sz_rel KA.out KB.out) ?_)))
      refine (CD.out _).mono ?_
      rintro e y4 ⟨rfl, hB⟩
      have rC4 : Row y4 C 71 (cl a b n) := rC3.old hB
      have bel4 : Below w.heap.size w y4 := below_step bel3 bel3.size hB
      clear hB rC3 bel3
      go_wp2_with (first
        | ((with_reducible refine at_slot 19 ?_); (refine arm_want (.bool false) 19 rfl (by kernel_rfl) (cmp_gtr _ _ _ _ rfl .u32 (x : Int) (x : Int) rfl rfl false d2 _) ?_))
        | ((with_reducible refine at_slot 23 ?_); (refine arm_want (.bool true) 23 rfl (by kernel_rfl) (cmp_eql _ _ .u32 (by kernel_rfl) _ _ rfl .u32 (x : Int) (x : Int) rfl rfl true d3 _) ?_))
        | ((with_reducible refine at_slot 26 ?_); (refine arm_want (.agg (rl a b).toArray) 26 rfl (by kernel_rfl) (run_op_load _ _ rfl C 0 rfl (rl a b) ((show Has (cl a b n) 0 (rl a b) from c_rel a b n).range (rC4)) ((sz_rel KA.out KB.out))) ?_)))
      refine (CR.out _ (HKW.out _ bel4)).mono ?_
      rintro e y5 ⟨rfl, hB⟩
      have rC5 : Row y5 C 71 (cl a b n) := rC4.old hB
      have bel5 : Below w.heap.size w y5 := below_step bel4 bel4.size hB
      clear hB rC4 bel4
      go_wp2_with fail
      rw [HQ.out]
      go_ret
      exact ⟨rfl, bel5⟩
    · skip
      have HQ : Hid (v = false) := Lib.hid (by rw [HV.out]; exact decide_eq_false (fun g => by rcases WW.out.1 g with g | g <;> omega))
      have d1 : decide ((y : Int) > (x : Int)) = false := decide_eq_false (by omega)
      have d2 : decide ((x : Int) < (y : Int)) = false := decide_eq_false (by omega)
      have d3 : decide ((y : Int) = (x : Int)) = false := decide_eq_false (by omega)
      clear h WW HV
      go_enter Tryz.func24, Tryz.ntmps24
      go_wp2_with (first
        | ((with_reducible refine at_slot 1 ?_); (refine arm_box (o := ⟨some 1, _, _, _, _, _⟩) rfl _ _ rfl (cl a b n) rfl ?_); intro C v1 Ce hv1 nv1)
        | ((with_reducible refine at_slot 6 ?_); (refine arm_load (o := ⟨some 6, _, _, _, _, _⟩) rfl _ _ rfl C 0 rfl (rl a b) ((show Has (cl a b n) 0 (rl a b) from c_rel a b n).range (hv1)) (sz_rel KA.out KB.out) ?_)))
      have q0 := Ce.out
      have q1 := nv1.size
      have lC : w.heap.size ≤ C := by omega
      have rC2 : Row v1 C 71 (cl a b n) := hv1
      have bel2 : Below w.heap.size w v1 := (below_step (Below.refl _ _) (by omega) nv1.below)
      clear q0 q1 Ce hv1 nv1
      refine (CN.out _).mono ?_
      rintro e y3 ⟨rfl, hB⟩
      have rC3 : Row y3 C 71 (cl a b n) := rC2.old hB
      have bel3 : Below w.heap.size w y3 := below_step bel2 bel2.size hB
      clear hB rC2 bel2
      go_wp2_with (first
        | ((with_reducible refine at_slot 13 ?_); (refine arm_load (o := ⟨some 13, _, _, _, _, _⟩) rfl _ _ rfl C 0 rfl (rl a b) ((show Has (cl a b n) 0 (rl a b) from c_rel a b n).range (rC3)) (sz_rel KA.out KB.out) ?_)))
      refine (CD.out _).mono ?_
      rintro e y4 ⟨rfl, hB⟩
      have rC4 : Row y4 C 71 (cl a b n) := rC3.old hB
      have bel4 : Below w.heap.size w y4 := below_step bel3 bel3.size hB
      clear hB rC3 bel3
      go_wp2_with (first
        | ((with_reducible refine at_slot 19 ?_); (refine arm_want (.bool false) 19 rfl (by kernel_rfl) (cmp_gtr _ _ _ _ rfl .u32 (y : Int) (x : Int) rfl rfl false d2 _) ?_))
        | ((with_reducible refine at_slot 23 ?_); (refine arm_want (.bool false) 23 rfl (by kernel_rfl) (cmp_eql _ _ .u32 (by kernel_rfl) _ _ rfl .u32 (y : Int) (x : Int) rfl rfl false d3 _) ?_)))
      rw [HQ.out]
      go_ret
      exact ⟨rfl, bel4⟩
set_option maxHeartbeats 4000000 in
set_option maxRecDepth 100000 in
theorem near_any (a b : Sta) (w : World) (ka : a.Ok) (kb : b.Ok) :
    Calls Tryz.prog 11 #[.agg (scs a).toArray, .agg (scs b).toArray] w fun e w' => e = .returned (.bool (decide (nearP a b))) ∧ Below w.heap.size w w' := by
  have KA := Lib.hid ka; have KB := Lib.hid kb
  have BR := Lib.hid (built_rel ka kb)
  have CM := Lib.hid (fun w0 => nearM_any a b w0 ka kb)
  generalize decide (nearP a b) = v at CM ⊢
  clear ka kb
  go_enter Tryz.func11, Tryz.ntmps11
  go_wp2_with (first
    | ((with_reducible refine at_slot 2 ?_); (refine arm_box (o := ⟨some 2, _, _, _, _, _⟩) rfl _ _ rfl (scs a) rfl ?_); intro A v1 Ae hv1 nv1)
    | ((with_reducible refine at_slot 3 ?_); (refine arm_box (o := ⟨some 3, _, _, _, _, _⟩) rfl _ _ rfl (scs b) rfl ?_); intro B v2 Be hv2 nv2)
    | ((with_reducible refine at_slot 5 ?_); (refine arm_load (o := ⟨some 5, _, _, _, _, _⟩) rfl _ _ rfl A 0 rfl (scs a) ((show Has (scs a) 0 (scs a) from Has.refl _).range ((hv1.old nv2.below))) (sz_sta KA.out) ?_))
    | ((with_reducible refine at_slot 6 ?_); (refine arm_load (o := ⟨some 6, _, _, _, _, _⟩) rfl _ _ rfl B 0 rfl (scs b) ((show Has (scs b) 0 (scs b) from Has.refl _).range (hv2)) (sz_sta KB.out) ?_))
    | ((with_reducible refine at_slot 7 ?_); (refine arm_build (o := ⟨some 7, _, _, _, _, _⟩) rfl _ _ rfl (rl a b) (by simp only [List.map_toArray, List.map_cons, List.map_nil]; exact BR.out) ?_)))
  have q0 := Ae.out
  have q1 := nv1.size
  have q2 := Be.out
  have q3 := nv2.size
  have lA : w.heap.size ≤ A := by omega
  have lB : w.heap.size ≤ B := by omega
  have nAB : A ≠ B := by omega
  have nBA : B ≠ A := by omega
  have rA3 : Row v2 A 35 (scs a) := (hv1.old nv2.below)
  have rB3 : Row v2 B 35 (scs b) := hv2
  have bel3 : Below w.heap.size w v2 := (below_step (below_step (Below.refl _ _) (by omega) nv1.below) (by omega) nv2.below)
  clear q0 q1 q2 q3 Ae hv1 nv1 Be hv2 nv2
  refine (CM.out _).mono ?_
  rintro e y4 ⟨rfl, hB⟩
  have rA4 : Row y4 A 35 (scs a) := rA3.old hB
  have rB4 : Row y4 B 35 (scs b) := rB3.old hB
  have bel4 : Below w.heap.size w y4 := below_step bel3 bel3.size hB
  clear hB rA3 rB3 bel3
  go_wp2_with fail
  go_ret
  exact ⟨rfl, bel4⟩
set_option maxHeartbeats 4000000 in
set_option maxRecDepth 100000 in
theorem dens_any (a b : Sta) (w : World) (ka : a.Ok) (kb : b.Ok) (ra : SRt a) (rb : SRt b) :
    Calls Tryz.prog 6 #[.agg (scs a).toArray, .agg (scs b).toArray] w fun e w' => e = .returned (.tuple #[.int .u32 ((denN a (asN a b) : Nat) : Int), .int .u32 ((denN b (asN a b) : Nat) : Int)]) ∧ Below w.heap.size w w' := by
  have KA := Lib.hid ka; have KB := Lib.hid kb
  have BR := Lib.hid (built_rel ka kb)
  have CM := Lib.hid (fun w0 => densM_any a b w0 ka kb ra rb)
  generalize denN a (asN a b) = x at CM ⊢
  generalize denN b (asN a b) = y at CM ⊢
  clear ka kb ra rb
  go_enter Tryz.func6, Tryz.ntmps6
  go_wp2_with (first
    | ((with_reducible refine at_slot 2 ?_); (refine arm_box (o := ⟨some 2, _, _, _, _, _⟩) rfl _ _ rfl (scs a) rfl ?_); intro A v1 Ae hv1 nv1)
    | ((with_reducible refine at_slot 3 ?_); (refine arm_box (o := ⟨some 3, _, _, _, _, _⟩) rfl _ _ rfl (scs b) rfl ?_); intro B v2 Be hv2 nv2)
    | ((with_reducible refine at_slot 6 ?_); (refine arm_load (o := ⟨some 6, _, _, _, _, _⟩) rfl _ _ rfl A 0 rfl (scs a) ((show Has (scs a) 0 (scs a) from Has.refl _).range ((hv1.old nv2.below))) (sz_sta KA.out) ?_))
    | ((with_reducible refine at_slot 7 ?_); (refine arm_load (o := ⟨some 7, _, _, _, _, _⟩) rfl _ _ rfl B 0 rfl (scs b) ((show Has (scs b) 0 (scs b) from Has.refl _).range (hv2)) (sz_sta KB.out) ?_))
    | ((with_reducible refine at_slot 8 ?_); (refine arm_build (o := ⟨some 8, _, _, _, _, _⟩) rfl _ _ rfl (rl a b) (by simp only [List.map_toArray, List.map_cons, List.map_nil]; exact BR.out) ?_)))
  have q0 := Ae.out
  have q1 := nv1.size
  have q2 := Be.out
  have q3 := nv2.size
  have lA : w.heap.size ≤ A := by omega
  have lB : w.heap.size ≤ B := by omega
  have nAB : A ≠ B := by omega
  have nBA : B ≠ A := by omega
  have rA3 : Row v2 A 35 (scs a) := (hv1.old nv2.below)
  have rB3 : Row v2 B 35 (scs b) := hv2
  have bel3 : Below w.heap.size w v2 := (below_step (below_step (Below.refl _ _) (by omega) nv1.below) (by omega) nv2.below)
  clear q0 q1 q2 q3 Ae hv1 nv1 Be hv2 nv2
  refine (CM.out _).mono ?_
  rintro e y4 ⟨rfl, hB⟩
  have rA4 : Row y4 A 35 (scs a) := rA3.old hB
  have rB4 : Row y4 B 35 (scs b) := rB3.old hB
  have bel4 : Below w.heap.size w y4 := below_step bel3 bel3.size hB
  clear hB rA3 rB3 bel3
  go_wp2_with fail
  go_ret2
  exact ⟨rfl, bel4⟩
set_option maxHeartbeats 4000000 in
set_option maxRecDepth 100000 in
theorem wins_any (a b : Sta) (w : World) (ka : a.Ok) (kb : b.Ok) (ra : SRt a) (rb : SRt b) (hk : w.rangeAt 0 0 (u32s ks)) :
    Calls Tryz.prog 13 #[.agg (scs a).toArray, .agg (scs b).toArray] w fun e w' => e = .returned (.bool (decide (winP a b))) ∧ Below w.heap.size w w' := by
  have hk1 : 0 < w.heap.size := range_lt hk (by simp [u32s, ks])
  have HKW : Hid (∀ w', Below w.heap.size w w' → w'.rangeAt 0 0 (u32s ks)) := Lib.hid fun w' hb => range_block hk (hb.block _ hk1)
  have KA := Lib.hid ka; have KB := Lib.hid kb
  have BR := Lib.hid (built_rel ka kb); have BC := Lib.hid (built_con ka kb)
  have CM := Lib.hid (fun w0 h => winsM_any a b 0 w0 ka kb ra rb h)
  generalize decide (winP a b) = v at CM ⊢
  clear ka kb ra rb hk hk1
  go_enter Tryz.func13, Tryz.ntmps13
  go_wp2_with (first
    | ((with_reducible refine at_slot 2 ?_); (refine arm_box (o := ⟨some 2, _, _, _, _, _⟩) rfl _ _ rfl (scs a) rfl ?_); intro A v1 Ae hv1 nv1)
    | ((with_reducible refine at_slot 3 ?_); (refine arm_box (o := ⟨some 3, _, _, _, _, _⟩) rfl _ _ rfl (scs b) rfl ?_); intro B v2 Be hv2 nv2)
    | ((with_reducible refine at_slot 5 ?_); (refine arm_load (o := ⟨some 5, _, _, _, _, _⟩) rfl _ _ rfl A 0 rfl (scs a) ((show Has (scs a) 0 (scs a) from Has.refl _).range ((hv1.old nv2.below))) (sz_sta KA.out) ?_))
    | ((with_reducible refine at_slot 6 ?_); (refine arm_load (o := ⟨some 6, _, _, _, _, _⟩) rfl _ _ rfl B 0 rfl (scs b) ((show Has (scs b) 0 (scs b) from Has.refl _).range (hv2)) (sz_sta KB.out) ?_))
    | ((with_reducible refine at_slot 7 ?_); (refine arm_build (o := ⟨some 7, _, _, _, _, _⟩) rfl _ _ rfl (rl a b) (by simp only [List.map_toArray, List.map_cons, List.map_nil]; exact BR.out) ?_))
    | ((with_reducible refine at_slot 8 ?_); (refine arm_build (o := ⟨some 8, _, _, _, _, _⟩) rfl _ _ rfl (cl a b 0) (by simp only [List.map_toArray, List.map_cons, List.map_nil]; exact BC.out) ?_)))
  have q0 := Ae.out
  have q1 := nv1.size
  have q2 := Be.out
  have q3 := nv2.size
  have lA : w.heap.size ≤ A := by omega
  have lB : w.heap.size ≤ B := by omega
  have nAB : A ≠ B := by omega
  have nBA : B ≠ A := by omega
  have rA3 : Row v2 A 35 (scs a) := (hv1.old nv2.below)
  have rB3 : Row v2 B 35 (scs b) := hv2
  have bel3 : Below w.heap.size w v2 := (below_step (below_step (Below.refl _ _) (by omega) nv1.below) (by omega) nv2.below)
  clear q0 q1 q2 q3 Ae hv1 nv1 Be hv2 nv2
  refine (CM.out _ (HKW.out _ bel3)).mono ?_
  rintro e y4 ⟨rfl, hB⟩
  have rA4 : Row y4 A 35 (scs a) := rA3.old hB
  have rB4 : Row y4 B 35 (scs b) := rB3.old hB
  have bel4 : Below w.heap.size w y4 := below_step bel3 bel3.size hB
  clear hB rA3 rB3 bel3
  go_wp2_with fail
  go_ret
  exact ⟨rfl, bel4⟩
theorem step_ok {a c : Sta} {n : Nat} (ka : a.Ok) (kc : c.Ok) : (stepF (a, n) c).1.Ok := by
  unfold stepF
  split
  · exact kc
  · exact ka
set_option maxHeartbeats 4000000 in
set_option maxRecDepth 100000 in
theorem hold_any (a b c : Sta) (n P : Nat) (w : World) (ka : a.Ok) (kb : b.Ok) (kc : c.Ok) (ra : SRt a) (rc : SRt c) (hn : n < 1000000) (hP : Row w P 71 (cl a b n)) (hk : w.rangeAt 0 0 (u32s ks)) (hPk : P ≠ 0) :
    Calls Tryz.prog 20 #[.pointer (some ⟨P, 0, none⟩), .agg (scs c).toArray] w fun e w' => e = .returned (.tuple #[]) ∧ Row w' P 71 (cl (stepF (a, n) c).1 c (stepF (a, n) c).2) ∧ Only P w w' := by
  have KA := Lib.hid ka; have KB := Lib.hid kb; have KC := Lib.hid kc
  have CW := Lib.hid (fun w0 h => winsM_any a c n w0 ka kc ra rc h)
  have HK := Lib.hid hk
  have HP1 := Lib.hid hPk
  have hk1 : 0 < w.heap.size := range_lt hk (by simp [u32s, ks])
  have HK1 := Lib.hid hk1
  have lP := hP.lt
  clear ka kb kc ra rc hk hPk
  by_cases hw : winP a c
  · rw [decide_eq_true hw] at CW
    have HE := Lib.hid (step_win (q := (a, n)) hw)
    clear hw
    go_enter Tryz.func20, Tryz.ntmps20
    go_wp2_with (first
      | ((with_reducible refine at_slot 3 ?_); (refine arm_box (o := ⟨some 3, _, _, _, _, _⟩) rfl _ _ rfl (scs c) rfl ?_); intro B v1 Be hv1 nv1)
      | ((with_reducible refine at_slot 5 ?_); (refine arm_load (o := ⟨some 5, _, _, _, _, _⟩) rfl _ _ rfl B 0 rfl (scs c) ((show Has (scs c) 0 (scs c) from Has.refl _).range hv1) (sz_sta KC.out) ?_))
      | ((with_reducible refine arm_store (o := ⟨none, _, _, _, _, _⟩) rfl _ _ _ rfl P 363 rfl (scs c) rfl _ _ ((hP.old nv1.below)) (by rw [cl_len KA.out KB.out, scs_len KC.out]; omega) (scs_one _) (sz_sta KC.out) ?_); intro v2 hv2 ov2 sv2)
      | ((with_reducible refine at_slot 11 ?_); (refine arm_load (o := ⟨some 11, _, _, _, _, _⟩) rfl _ _ rfl P 0 rfl (cl a c n) ((show Has (cl a c n) 0 (cl a c n) from Has.refl _).range (hv2.congr (lay_cother KA.out KB.out KC.out n))) (sz_con KA.out KC.out n) ?_)))
    have q1 := Be.out; have q2 := nv1.size; have q3 := sv2.out
    have nBP : B ≠ P := by omega
    have rB := hv1.only ov2 nBP
    have rP := hv2.congr (lay_cother KA.out KB.out KC.out n)
    have on2 : Only P w v2 := only_trans (only_below nv1.below) ov2
    have k2 : v2.rangeAt 0 0 (u32s ks) := range_block HK.out (on2.block _ HK1.out (Ne.symm HP1.out))
    clear q1 hv1 hv2 ov2 nv1 hP
    refine (CW.out _ k2).mono ?_
    rintro e v3 ⟨rfl, hB⟩
    have rP3 := rP.old hB; have rB3 := rB.old hB
    have on3 : Only P w v3 := only_trans on2 (only_below hB)
    have s3 := hB.size
    clear hB rP rB on2 k2 CW
    go_wp2_with (first
      | ((with_reducible refine at_slot 14 ?_); (refine arm_load (o := ⟨some 14, _, _, _, _, _⟩) rfl _ _ rfl B 0 rfl (scs c) ((show Has (scs c) 0 (scs c) from Has.refl _).range rB3) (sz_sta KC.out) ?_))
      | ((with_reducible refine arm_store (o := ⟨none, _, _, _, _, _⟩) rfl _ _ _ rfl P 0 rfl (scs c) rfl _ _ (rP3) (by rw [cl_len KA.out KC.out, scs_len KC.out]; omega) (scs_one _) (sz_sta KC.out) ?_); intro v4 hv4 ov4 sv4)
      | ((with_reducible refine at_slot 21 ?_); (refine arm_want (.int .i64 (n : Int)) 21 rfl (by kernel_rfl) (run_op_load1 _ _ rfl (.int .i64) (by kernel_rfl) rfl ⟨P, 726, none⟩ rfl (.int .i64 (n : Int)) ((hv4.congr (lay_cone KA.out KC.out n)).cell (c_turns KC.out KC.out n).get)) ?_))
      | ((with_reducible refine at_slot 22 ?_); (refine arm_want (.int .i64 ((n + 1 : Nat) : Int)) 22 rfl (by kernel_rfl) (Lk.run_op_add64 _ _ _ _ rfl _ _ _ rfl rfl (by rw [IntKind.wrap_i64]; omega) _) ?_))
      | ((with_reducible refine arm_store1 (o := ⟨none, _, _, _, _, _⟩) rfl _ _ _ rfl P 726 rfl .i64 ((n + 1 : Nat) : Int) rfl (by kernel_rfl) _ _ (hv4.congr (lay_cone KA.out KC.out n)) (by rw [cl_len KC.out KC.out]; omega) ?_); intro v5 hv5 ov5 sv5))
    rw [HE.out]
    go_end0
    exact ⟨rfl, hv5.congr (set_turns KC.out KC.out n (n + 1)), only_trans (only_trans on3 ov4) ov5⟩
  · rw [decide_eq_false hw] at CW
    have HE := Lib.hid (step_stay (q := (a, n)) hw)
    clear hw
    go_enter Tryz.func20, Tryz.ntmps20
    go_wp2_with (first
      | ((with_reducible refine at_slot 3 ?_); (refine arm_box (o := ⟨some 3, _, _, _, _, _⟩) rfl _ _ rfl (scs c) rfl ?_); intro B v1 Be hv1 nv1)
      | ((with_reducible refine at_slot 5 ?_); (refine arm_load (o := ⟨some 5, _, _, _, _, _⟩) rfl _ _ rfl B 0 rfl (scs c) ((show Has (scs c) 0 (scs c) from Has.refl _).range hv1) (sz_sta KC.out) ?_))
      | ((with_reducible refine arm_store (o := ⟨none, _, _, _, _, _⟩) rfl _ _ _ rfl P 363 rfl (scs c) rfl _ _ ((hP.old nv1.below)) (by rw [cl_len KA.out KB.out, scs_len KC.out]; omega) (scs_one _) (sz_sta KC.out) ?_); intro v2 hv2 ov2 sv2)
      | ((with_reducible refine at_slot 11 ?_); (refine arm_load (o := ⟨some 11, _, _, _, _, _⟩) rfl _ _ rfl P 0 rfl (cl a c n) ((show Has (cl a c n) 0 (cl a c n) from Has.refl _).range (hv2.congr (lay_cother KA.out KB.out KC.out n))) (sz_con KA.out KC.out n) ?_)))
    have q1 := Be.out; have q2 := nv1.size; have q3 := sv2.out
    have nBP : B ≠ P := by omega
    have rB := hv1.only ov2 nBP
    have rP := hv2.congr (lay_cother KA.out KB.out KC.out n)
    have on2 : Only P w v2 := only_trans (only_below nv1.below) ov2
    have k2 : v2.rangeAt 0 0 (u32s ks) := range_block HK.out (on2.block _ HK1.out (Ne.symm HP1.out))
    clear q1 hv1 hv2 ov2 nv1 hP
    refine (CW.out _ k2).mono ?_
    rintro e v3 ⟨rfl, hB⟩
    have rP3 := rP.old hB; have rB3 := rB.old hB
    have on3 : Only P w v3 := only_trans on2 (only_below hB)
    have s3 := hB.size
    clear hB rP rB on2 k2 CW
    go_wp2_with fail
    rw [HE.out]
    go_end0
    exact ⟨rfl, rP3, on3⟩
structure FoRel (w : World) (t : Sta) (l : List Sta) (R C : Nat) (i : Value) (wr : World) : Prop where
  ex : ∃ (k : Nat) (o : Sta), k ≤ l.length ∧ i = .int .i64 (k : Int) ∧ o.Ok ∧ Row wr C 71 (cl (foldF t (l.take k)).1 o (foldF t (l.take k)).2)
  rr : Row wr R 35 (scs zs)
  bel : Below w.heap.size w wr
theorem fold_take_ok {t : Sta} {l : List Sta} (ht : t.Ok) (h : ∀ s ∈ l, s.Ok) (k : Nat) : (foldF t (l.take k)).1.Ok := fold_ok ht (fun s hs => h s (List.mem_of_mem_take hs))
theorem fold_take_right {t : Sta} {l : List Sta} (ht : SRt t) (h : ∀ s ∈ l, SRt s) (k : Nat) : SRt (foldF t (l.take k)).1 := fold_right ht (fun s hs => h s (List.mem_of_mem_take hs))
set_option maxHeartbeats 4000000 in
set_option maxRecDepth 100000 in
theorem fold_any (t : Sta) (l : List Sta) (P : Option Addr) (pc : Nat) (w : World) (kt : t.Ok) (rt : SRt t) (hs : At kS w P l) (hr : ∀ s ∈ l, SRt s) (hm : l.length ≤ 1000) (hk : w.rangeAt 0 0 (u32s ks)) :
    Calls Tryz.prog 9 #[.agg (scs t).toArray, .slice P l.length pc] w fun e w' => e = .returned (.tuple #[.agg (scs (foldF t l).1).toArray, .int .i64 (((foldF t l).2 : Nat) : Int)]) ∧ Below w.heap.size w w' := by
  have hk1 : 0 < w.heap.size := range_lt hk (by simp [u32s, ks])
  have HKW : Hid (∀ w', Below w.heap.size w w' → w'.rangeAt 0 0 (u32s ks)) := Lib.hid fun w' hb => range_block hk (hb.block _ hk1)
  have HS := Lib.hid hs; have KT := Lib.hid kt
  have HK1 := Lib.hid hk1
  have FOK := Lib.hid (fun k => fold_take_ok kt hs.ok k); have FRT := Lib.hid (fun k => fold_take_right rt hr k)
  have FST := Lib.hid (fun k s (h : l[k]? = some s) => foldF_take (t := t) h)
  have FLE : Hid (∀ k, (foldF t (l.take k)).2 ≤ 1000) := Lib.hid (fun k => Nat.le_trans (foldF_le _ _) (Nat.le_trans (by rw [List.length_take]; omega) hm))
  have LR : Hid (∀ k s, l[k]? = some s → SRt s) := Lib.hid (fun k s h => hr s (List.mem_of_getElem? h))
  have BR := Lib.hid (built_rel1 kt); have BC := Lib.hid (built_con kt zs_ok)
  have FAL : Hid (l.take l.length = l) := Lib.hid (List.take_length)
  have HML := Lib.hid hm
  clear kt rt hs hr hm hk hk1
  go_enter Tryz.func9, Tryz.ntmps9
  go_wp2_with (first
    | ((with_reducible refine at_slot 2 ?_); (refine arm_box (o := ⟨some 2, _, _, _, _, _⟩) rfl _ _ rfl (scs t) rfl ?_); intro A v1 Ae hv1 nv1)
    | ((with_reducible refine at_slot 4 ?_); (refine arm_alloc (o := ⟨some 4, _, _, _, _, _⟩) rfl _ rfl (scs zs) z_sta ?_); intro R v2 Re hv2 nv2)
    | ((with_reducible refine at_slot 9 ?_); (refine arm_load (o := ⟨some 9, _, _, _, _, _⟩) rfl _ _ rfl A 0 rfl (scs t) ((show Has (scs t) 0 (scs t) from Has.refl _).range ((hv1.old nv2.below))) (sz_sta KT.out) ?_))
    | ((with_reducible refine at_slot 10 ?_); (refine arm_build (o := ⟨some 10, _, _, _, _, _⟩) rfl _ _ rfl (rl t zs) (by simp only [List.map_toArray, List.map_cons, List.map_nil]; exact BR.out) ?_))
    | ((with_reducible refine at_slot 11 ?_); (refine arm_build (o := ⟨some 11, _, _, _, _, _⟩) rfl _ _ rfl (cl t zs 0) (by simp only [List.map_toArray, List.map_cons, List.map_nil]; exact BC.out) ?_))
    | ((with_reducible refine at_slot 6 ?_); (refine arm_alloc (o := ⟨some 6, _, _, _, _, _⟩) rfl _ rfl (cl zs zs 0) z_con ?_); intro C v3 Ce hv3 nv3)
    | ((with_reducible refine arm_store (o := ⟨none, _, _, _, _, _⟩) rfl _ _ _ rfl C 0 rfl (cl t zs 0) rfl _ _ (hv3) (fitC KT.out zs_ok 0) (cl_one _ _ _) (sz_con KT.out zs_ok 0) ?_); intro v4 hv4 ov4 sv4))
  have q0 := Ae.out
  have q1 := nv1.size
  have q2 := Re.out
  have q3 := nv2.size
  have q4 := Ce.out
  have q5 := nv3.size
  have q6 := sv4.out
  have lA : w.heap.size ≤ A := by omega
  have lR : w.heap.size ≤ R := by omega
  have nAR : A ≠ R := by omega
  have nRA : R ≠ A := by omega
  have lC : w.heap.size ≤ C := by omega
  have nAC : A ≠ C := by omega
  have nCA : C ≠ A := by omega
  have nRC : R ≠ C := by omega
  have nCR : C ≠ R := by omega
  have rA5 : Row v4 A 35 (scs t) := (((hv1.old nv2.below).old nv3.below).only ov4 nAC)
  have rR5 : Row v4 R 35 (scs zs) := ((hv2.old nv3.below).only ov4 nRC)
  have rC5 : Row v4 C 71 (cl t zs 0) := (hv4.congr (allC KT.out zs_ok 0))
  have bel5 : Below w.heap.size w v4 := (below_only (below_step (below_step (below_step (Below.refl _ _) (by omega) nv1.below) (by omega) nv2.below) (by omega) nv3.below) ov4 lC (by omega))
  clear q0 q1 q2 q3 q4 q5 q6 Ae hv1 nv1 Re hv2 nv2 Ce hv3 nv3 hv4 ov4 sv4
  have h0 : FoRel w t l R C (.int .i64 0) v4 := ⟨⟨0, zs, by omega, rfl, zs_ok, rC5⟩, rR5, bel5⟩
  clear rA5 rC5 rR5 bel5
  go_loopw [14] (fun i wr => FoRel w t l R C i wr) (fun i _ => l.length - (intOf i).toNat)
  case atStart => exact h0
  case round =>
    clear h0
    obtain ⟨⟨k, o, hk, rfl, ko, rC⟩, rR, bel⟩ := hrel
    have KO := Lib.hid ko; clear ko
    by_cases hlt : k < l.length
    · obtain ⟨s, g, q, ht, ks', hP, hgl, hrs⟩ := HS.out.get hlt
      subst hP
      have RT := Lib.hid (range_block hrs (bel.block g hgl)); have KS := Lib.hid ks'; have HT := Lib.hid ht
      have KF := Lib.hid (FOK.out k); have RF := Lib.hid (FRT.out k); have RS := Lib.hid (LR.out k s ht); have HN := Lib.hid (FLE.out k)
      have HF := Lib.hid (FST.out k s ht)
      have ik : (k : Int) < (l.length : Int) := by omega
      clear hrs ks' ht FST FOK FRT FLE
      generalize hq : foldF t (l.take k) = qq at rC KF RF HN HF
      have HQ := Lib.hid hq
      clear hq
      obtain ⟨qs, qn⟩ := qq
      have lC : w.heap.size ≤ C := lC
      have HNC := Lib.hid nCR
      go_wp2_with (first
        | ((with_reducible refine at_slot 16 ?_); (refine arm_want (.pointer (some ⟨g, q + k * 363, none⟩)) 16 rfl (by kernel_rfl) (run_op_index fS _ _ rfl g q _ _ rfl .i64 _ rfl k rfl hlt _) ?_))
        | ((with_reducible refine at_slot 17 ?_); (refine arm_load (o := ⟨some 17, _, _, _, _, _⟩) rfl _ _ rfl g (q + k * 363) rfl (scs s) (RT.out) (sz_sta KS.out) ?_))
        | ((with_reducible refine at_slot 8 ?_); (refine arm_alloc (o := ⟨some 8, _, _, _, _, _⟩) rfl _ rfl (scs zs) z_sta ?_); intro X v101 Xe hv101 nv101)
        | ((with_reducible refine arm_store (o := ⟨none, _, _, _, _, _⟩) rfl _ _ _ rfl X 0 rfl (scs s) rfl _ _ (hv101) (fitS KS.out) (scs_one _) (sz_sta KS.out) ?_); intro v102 hv102 ov102 sv102)
        | ((with_reducible refine at_slot 18 ?_); (refine arm_load (o := ⟨some 18, _, _, _, _, _⟩) rfl _ _ rfl X 0 rfl (scs s) ((show Has (scs s) 0 (scs s) from Has.refl _).range ((hv102.congr (allS KS.out)))) (sz_sta KS.out) ?_)))
      have q0 := Xe.out
      have q1 := nv101.size
      have q2 := sv102.out
      have q3 := rC.lt
      have q4 := rR.lt
      have q5 := bel.size
      have lX : w.heap.size ≤ X := by omega
      have nCX : C ≠ X := by omega
      have nXC : X ≠ C := by omega
      have nRX : R ≠ X := by omega
      have nXR : X ≠ R := by omega
      have rC103 : Row v102 C 71 (cl qs o qn) := ((rC.old nv101.below).only ov102 nCX)
      have rR103 : Row v102 R 35 (scs zs) := ((rR.old nv101.below).only ov102 nRX)
      have rX103 : Row v102 X 35 (scs s) := (hv102.congr (allS KS.out))
      have bel103 : Below w.heap.size w v102 := (below_only (below_step bel (by omega) nv101.below) ov102 lX (by omega))
      clear q0 q1 q2 q3 q4 q5 rC rR bel Xe hv101 nv101 hv102 ov102 sv102
      refine (hold_any qs o s qn C _ KF.out KO.out KS.out RF.out RS.out (by have := HN.out; omega) rC103 (HKW.out _ bel103) (by have := HK1.out; omega)).mono ?_
      rintro e wz ⟨rfl, rC2, on2⟩
      have rR2 := rR103.only on2 (Ne.symm HNC.out)
      have bel2 : Below w.heap.size w wz := below_only bel103 on2 lC bel103.size
      rw [← HF.out] at rC2
      clear rC103 rR103 bel103 on2 rX103
      have hk1000 : k < 100000 := by have := HML.out; omega
      go_wp2_with fail
      go_roundw
      case rel => exact ⟨⟨k + 1, s, by omega, by go_num, KS.out, rC2⟩, rR2, bel2⟩
      case measure => simp [intOf]; omega
    · obtain rfl : k = l.length := by omega
      have KF := Lib.hid (FOK.out l.length)
      rw [FAL.out] at rC KF
      clear FST FOK FRT FLE
      generalize hq : foldF t l = qq at rC KF
      have HQ := Lib.hid hq
      clear hq
      obtain ⟨qs, qn⟩ := qq
      go_wp2_with fail
      refine wp_region_held (S := fun w' => Row w' C 71 (cl qs o qn) ∧ True) (by kernel_rfl) ?_
      change wpAnyH _ _ _ _ _ _ _ _ wr.drew
      have rC101 : Row wr.drew C 71 (cl qs o qn) := rC
      have rR101 : Row wr.drew R 35 (scs zs) := rR
      have bel101 : Below w.heap.size w wr.drew := bel.trans ((Below.refl _ _).drew)
      clear rC rR bel
      generalize wr.drew = y101 at rC101 rR101 bel101 ⊢
      refine h_take 0 (.pointer (some ⟨C, 0, none⟩)) rfl 21 rfl (by kernel_rfl) (by kernel_rfl) (by kernel_rfl) (by kernel_rfl) (fun _ _ _ h => h) (fun w' _ => by kernel_rfl) ⟨rC101, trivial⟩ ?_
      simp only [Act.put, List.setIfInBounds_toArray, List.set_cons_zero, List.set_cons_succ]
      refine h_take 1 (.pointer (some ⟨C, 0, none⟩)) rfl 22 rfl (by kernel_rfl) (by kernel_rfl) (by kernel_rfl) (by kernel_rfl) (fun _ _ _ h => h) (fun w' _ => by kernel_rfl) ⟨rC101, trivial⟩ ?_
      simp only [Act.put, List.setIfInBounds_toArray, List.set_cons_zero, List.set_cons_succ]
      refine h_take 2 (.agg (scs qs).toArray) rfl 23 rfl (by kernel_rfl) (by kernel_rfl) (by kernel_rfl) (by kernel_rfl) (fun _ _ _ h => h) (fun w' hw => run_op_load _ _ rfl C 0 rfl (scs qs) ((show Has (cl qs o qn) 0 (scs qs) from c_one qs o qn).range hw.1) (sz_sta KF.out)) ⟨rC101, trivial⟩ ?_
      simp only [Act.put, List.setIfInBounds_toArray, List.set_cons_zero, List.set_cons_succ]
      refine h_take 3 (.pointer (some ⟨C, 726, none⟩)) rfl 24 rfl (by kernel_rfl) (by kernel_rfl) (by kernel_rfl) (by kernel_rfl) (fun _ _ _ h => h) (fun w' _ => by kernel_rfl) ⟨rC101, trivial⟩ ?_
      simp only [Act.put, List.setIfInBounds_toArray, List.set_cons_zero, List.set_cons_succ]
      refine h_take 4 (.int .i64 (qn : Int)) rfl 25 rfl (by kernel_rfl) (by kernel_rfl) (by kernel_rfl) (by kernel_rfl) (fun _ _ _ h => h) (fun w' hw => run_op_load1 _ _ rfl (.int .i64) (by kernel_rfl) rfl ⟨C, 726, none⟩ rfl (.int .i64 (qn : Int)) (hw.1.cell (show Has (cl qs o qn) 726 [.int .i64 (qn : Int)] from c_turns KF.out KO.out qn).get)) ⟨rC101, trivial⟩ ?_
      simp only [Act.put, List.setIfInBounds_toArray, List.set_cons_zero, List.set_cons_succ]
      refine h_one (i := 5) (by kernel_rfl) (o_skip rfl rfl (by kernel_rfl) (run_op_store _ _ _ rfl R 0 rfl (scs qs) rfl _ _ rR101 (fitS KF.out) (scs_one _) (sz_sta KF.out)) ?_)
      have rq := row_setRow rR101 (lay (scs zs) 0 (scs qs))
      have oq := Only.setRow R y101 (lay (scs zs) 0 (scs qs)).toArray
      generalize y101.setRow R (lay (scs zs) 0 (scs qs)).toArray = y102 at rq oq ⊢
      have rC102 : Row y102 C 71 (cl qs o qn) := rC101.only oq nCR
      have rR102 : Row y102 R 35 (scs qs) := rq.congr (allS KF.out)
      have bel102 : Below w.heap.size w y102 := below_only bel101 oq lR bel101.size
      clear rC101 rR101 rq bel101 oq
      refine ⟨⟨rC102, trivial⟩, ?_⟩
      refine h_take 6 (.int .i64 (qn : Int)) rfl 5 rfl (by kernel_rfl) (by kernel_rfl) (by kernel_rfl) (by kernel_rfl) (fun _ _ _ h => h) (fun w' _ => by kernel_rfl) ⟨rC102, trivial⟩ ?_
      simp only [Act.put, List.setIfInBounds_toArray, List.set_cons_zero, List.set_cons_succ]
      refine wpAnyH_done (by kernel_rfl) ?_ _
      go_wp2_with fail
      rw [HQ.out]
      exact bodyPost_ret (v := .tuple #[.agg (scs qs).toArray, .int .i64 (qn : Int)]) (result_row2 (p := 4) (u := 5) (ty := 35) (t := 35) (by kernel_rfl) _ _ R (scs qs) (.int .i64 (qn : Int)) rfl rfl rR102 (sz_sta KF.out)) rfl ⟨rfl, bel102⟩
end Go.Proofs.YtffpifljeeikfaaGreatDoor.Cz
