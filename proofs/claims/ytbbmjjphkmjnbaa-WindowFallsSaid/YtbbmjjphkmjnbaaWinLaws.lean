/-
  The contract of layer 7's awake; WindowTells, walked: whether any window state may be, what it is with one block more, and its least density as of any slot are as the document says. Over this seat's translation.
-/
import Derived.Test.YtbbmjjphkmjnbaaWinRef
namespace Go.Proofs.Ytbbmjjphkmjnbaa.Wn
open Go.ChangeShapes Go.WideShapes Go.ChangeAt Go.RowKit Go.Proofs.Ytbbmjjphkmjnbaa.Mem Go.Proofs.Ytbbmjjphkmjnbaa.Bt Go.Proofs.Ytbbmjjphkmjnbaa.Rg
set_option linter.unusedVariables false
set_option linter.unusedSimpArgs false

theorem awk_put12 (w : World) : Calls Try.prog 12 #[.agg (wcs 12 0 [1, 3, 3, 3]).toArray, .int .u32 12] w fun e w' => e = .returned (.tuple #[.agg (wcs 1 4 [1, 0, 0, 0]).toArray, .int .i64 0]) ∧ Below w.heap.size w w' := by
  have h := wput_any 12 0 12 [1, 3, 3, 3] w (by decide) (by decide) (by decide) (by decide) rfl
  rw [show putM 12 0 [1, 3, 3, 3] 12 = 1 by decide, show putL 0 [1, 3, 3, 3] (12 / 3) = 4 by decide, show putC 0 [1, 3, 3, 3] (12 / 3) = [1, 0, 0, 0] by decide, show putE 0 [1, 3, 3, 3] (12 / 3) = 0 by decide] at h
  exact h
theorem awk_put3 (w : World) : Calls Try.prog 12 #[.agg (wcs 1 4 [1, 0, 0, 0]).toArray, .int .u32 3] w fun e w' => e = .returned (.tuple #[.agg (wcs 0 0 [0, 0, 0, 0]).toArray, .int .i64 6]) ∧ Below w.heap.size w w' := by
  have h := wput_any 1 4 3 [1, 0, 0, 0] w (by decide) (by decide) (by decide) (by decide) rfl
  rw [show putM 1 4 [1, 0, 0, 0] 3 = 0 by decide, show putL 4 [1, 0, 0, 0] (3 / 3) = 0 by decide, show putC 4 [1, 0, 0, 0] (3 / 3) = [0, 0, 0, 0] by decide, show putE 4 [1, 0, 0, 0] (3 / 3) = 6 by decide] at h
  exact h
theorem awk_right (w : World) : Calls Try.prog 7 #[.agg (wcs 12 0 [1, 3, 3, 3]).toArray] w fun e w' => e = .returned (.bool true) ∧ Below w.heap.size w w' := by
  have h := wright_any 12 0 [1, 3, 3, 3] w (by decide) (by decide) (by intro x hx; simp at hx; omega) rfl
  rw [show decide (WRt 12 0 [1, 3, 3, 3]) = true by decide] at h
  exact h
theorem awk_wrong (w : World) : Calls Try.prog 7 #[.agg (wcs 13 0 [1, 3, 3, 3]).toArray] w fun e w' => e = .returned (.bool false) ∧ Below w.heap.size w w' := by
  have h := wright_any 13 0 [1, 3, 3, 3] w (by decide) (by decide) (by intro x hx; simp at hx; omega) rfl
  rw [show decide (WRt 13 0 [1, 3, 3, 3]) = false by decide] at h
  exact h
theorem awk_rel11 (w : World) : Calls Try.prog 14 #[.agg (wcs 12 0 [1, 3, 3, 3]).toArray, .int .u32 11] w fun e w' => e = .returned (.int .u32 12) ∧ Below w.heap.size w w' := by
  have h := wrel_any 12 0 11 [1, 3, 3, 3] w (by decide) (by decide) (by decide) (by decide) rfl
  rw [show relN 12 0 [1, 3, 3, 3] 11 = 12 by decide] at h
  exact h
theorem awk_rel12 (w : World) : Calls Try.prog 14 #[.agg (wcs 12 0 [1, 3, 3, 3]).toArray, .int .u32 12] w fun e w' => e = .returned (.int .u32 1) ∧ Below w.heap.size w w' := by
  have h := wrel_any 12 0 12 [1, 3, 3, 3] w (by decide) (by decide) (by decide) (by decide) rfl
  rw [show relN 12 0 [1, 3, 3, 3] 12 = 1 by decide] at h
  exact h
theorem awk_rel15 (w : World) : Calls Try.prog 14 #[.agg (wcs 12 0 [1, 3, 3, 3]).toArray, .int .u32 15] w fun e w' => e = .returned (.int .u32 0) ∧ Below w.heap.size w w' := by
  have h := wrel_any 12 0 15 [1, 3, 3, 3] w (by decide) (by decide) (by decide) (by decide) rfl
  rw [show relN 12 0 [1, 3, 3, 3] 15 = 0 by decide] at h
  exact h
set_option maxHeartbeats 2000000 in
set_option maxRecDepth 100000 in
theorem awake_any (w : World) : Calls Try.prog 6 #[] w fun e w' => e = .returned (.bool true) ∧ Below w.heap.size w w' := by
  go_enter Try.func6, Try.ntmps6
  go_wp2_with fail
  refine (wgenesis_any w).mono ?_
  rintro e w1 ⟨rfl, bel1⟩
  go_wp2_with (first
    | ((with_reducible refine at_slot 1 ?_); (refine arm_alloc (o := ⟨some 1, _, _, _, _, _⟩) rfl _ rfl (wcs 0 0 [0, 0, 0, 0]) z_win ?_); intro G va Ge hva nva)
    | ((with_reducible refine arm_store (o := ⟨none, _, _, _, _, _⟩) rfl _ _ _ rfl G 0 rfl (wcs 12 0 [1, 3, 3, 3]) rfl _ _ (hva) (fit6 rfl) (wcs_one _ _ _) (sz_win rfl) ?_); intro vb hvb ovb svb)
    | ((with_reducible refine at_slot 8 ?_); (refine arm_load (o := ⟨some 8, _, _, _, _, _⟩) rfl _ _ rfl G 0 rfl (wcs 12 0 [1, 3, 3, 3]) (row_all (hvb.congr (lay_all _ _ (len6 rfl)))) (sz_win rfl) ?_)))
  have rowG : Row vb G 27 (wcs 12 0 [1, 3, 3, 3]) := hvb.congr (lay_all _ _ (len6 rfl))
  have eN := Ge.out; have sN := nva.size; have tN := svb.out; have zN := bel1.size
  have bel2 : Below w.heap.size w vb := below_only (below_step bel1 zN nva.below) ovb (by omega) (by omega)
  clear eN sN tN zN Ge hva nva hvb ovb svb bel1
  refine (awk_put12 _).mono ?_
  rintro e w3 ⟨rfl, hB⟩
  have bel3 : Below w.heap.size w w3 := below_step bel2 bel2.size hB
  replace rowG := rowG.old hB
  clear hB bel2
  go_wp2_with (first
    | ((with_reducible refine at_slot 2 ?_); (refine arm_alloc (o := ⟨some 2, _, _, _, _, _⟩) rfl _ rfl (wcs 0 0 [0, 0, 0, 0]) z_win ?_); intro X va Xe hva nva)
    | ((with_reducible refine arm_store (o := ⟨none, _, _, _, _, _⟩) rfl _ _ _ rfl X 0 rfl (wcs 1 4 [1, 0, 0, 0]) rfl _ _ (hva) (fit6 rfl) (wcs_one _ _ _) (sz_win rfl) ?_); intro vb hvb ovb svb)
    | ((with_reducible refine at_slot 13 ?_); (refine arm_load (o := ⟨some 13, _, _, _, _, _⟩) rfl _ _ rfl X 0 rfl (wcs 1 4 [1, 0, 0, 0]) (row_all (hvb.congr (lay_all _ _ (len6 rfl)))) (sz_win rfl) ?_)))
  have rowX : Row vb X 27 (wcs 1 4 [1, 0, 0, 0]) := hvb.congr (lay_all _ _ (len6 rfl))
  have eN := Xe.out; have sN := nva.size; have tN := svb.out; have zN := bel3.size
  have bel4 : Below w.heap.size w vb := below_only (below_step bel3 zN nva.below) ovb (by omega) (by omega)
  have lG := rowG.lt
  replace rowG := (rowG.old nva.below).only ovb (by omega)
  clear lG
  clear eN sN tN zN Xe hva nva hvb ovb svb bel3
  refine (awk_put3 _).mono ?_
  rintro e w5 ⟨rfl, hB⟩
  have bel5 : Below w.heap.size w w5 := below_step bel4 bel4.size hB
  replace rowG := rowG.old hB
  replace rowX := rowX.old hB
  clear hB bel4
  go_wp2_with (first
    | ((with_reducible refine at_slot 4 ?_); (refine arm_alloc (o := ⟨some 4, _, _, _, _, _⟩) rfl _ rfl (wcs 0 0 [0, 0, 0, 0]) z_win ?_); intro Y va Ye hva nva)
    | ((with_reducible refine arm_store (o := ⟨none, _, _, _, _, _⟩) rfl _ _ _ rfl Y 0 rfl (wcs 0 0 [0, 0, 0, 0]) rfl _ _ (hva) (fit6 rfl) (wcs_one _ _ _) (sz_win rfl) ?_); intro vb hvb ovb svb); have rG := ((rowG.old nva.below).only ovb (by have := Ye.out; have := rowG.lt; omega)); have rX := ((rowX.old nva.below).only ovb (by have := Ye.out; have := rowX.lt; omega)); have cG := rG.cell (wcs_get0 12 0 [1, 3, 3, 3]); have cX := rX.cell (wcs_get0 1 4 [1, 0, 0, 0])
    | ((with_reducible refine at_slot 21 ?_); (refine arm_want (.agg (wcs 12 0 [1, 3, 3, 3]).toArray) 21 rfl (by kernel_rfl) (run_op_load _ _ rfl G 0 rfl (wcs 12 0 [1, 3, 3, 3]) (row_all rG) (sz_win rfl)) ?_)))
  have eN := Ye.out; have sN := nva.size; have tN := svb.out; have zN := bel5.size
  have bel6 : Below w.heap.size w vb := below_only (below_step bel5 zN nva.below) ovb (by omega) (by omega)
  clear eN sN tN zN Ye hva nva hvb ovb svb bel5 rowG rowX cG cX
  have rowG := rG
  have rowX := rX
  clear rG rX
  refine (awk_right _).mono ?_
  rintro e w7 ⟨rfl, hB⟩
  have bel7 : Below w.heap.size w w7 := below_step bel6 bel6.size hB
  replace rowG := rowG.old hB
  replace rowX := rowX.old hB
  clear hB bel6
  have cX := rowX.cell (wcs_get0 1 4 [1, 0, 0, 0])
  go_wp2_with (first
    | ((with_reducible refine at_slot 38 ?_); (refine arm_want (.agg (wcs 12 0 [1, 3, 3, 3]).toArray) 38 rfl (by kernel_rfl) (run_op_load _ _ rfl G 0 rfl (wcs 12 0 [1, 3, 3, 3]) (row_all rowG) (sz_win rfl)) ?_)))
  clear cX rowX
  refine (awk_rel11 _).mono ?_
  rintro e w8 ⟨rfl, hB⟩
  have bel8 : Below w.heap.size w w8 := below_step bel7 bel7.size hB
  replace rowG := rowG.old hB
  clear hB bel7
  go_wp2_with (first
    | ((with_reducible refine at_slot 43 ?_); (refine arm_want (.agg (wcs 12 0 [1, 3, 3, 3]).toArray) 43 rfl (by kernel_rfl) (run_op_load _ _ rfl G 0 rfl (wcs 12 0 [1, 3, 3, 3]) (row_all rowG) (sz_win rfl)) ?_)))
  refine (awk_rel12 _).mono ?_
  rintro e w9 ⟨rfl, hB⟩
  have bel9 : Below w.heap.size w w9 := below_step bel8 bel8.size hB
  replace rowG := rowG.old hB
  clear hB bel8
  go_wp2_with (first
    | ((with_reducible refine at_slot 48 ?_); (refine arm_want (.agg (wcs 12 0 [1, 3, 3, 3]).toArray) 48 rfl (by kernel_rfl) (run_op_load _ _ rfl G 0 rfl (wcs 12 0 [1, 3, 3, 3]) (row_all rowG) (sz_win rfl)) ?_)))
  refine (awk_rel15 _).mono ?_
  rintro e w10 ⟨rfl, hB⟩
  have bel10 : Below w.heap.size w w10 := below_step bel9 bel9.size hB
  replace rowG := rowG.old hB
  clear hB bel9
  go_wp2_with fail
  refine (Rg.genesis_any _).mono ?_
  rintro e w11 ⟨rfl, hB⟩
  have bel11 : Below w.heap.size w w11 := below_step bel10 bel10.size hB
  replace rowG := rowG.old hB
  clear hB bel10
  go_wp2_with (first
    | ((with_reducible refine at_slot 54 ?_); (refine arm_want (.agg (wcs 13 0 [1, 3, 3, 3]).toArray) 54 rfl (by kernel_rfl) (run_op_build _ _ rfl (wcs 13 0 [1, 3, 3, 3]) (by kernel_rfl) _) ?_)))
  refine (awk_wrong _).mono ?_
  rintro e w12 ⟨rfl, hB⟩
  have bel12 : Below w.heap.size w w12 := below_step bel11 bel11.size hB
  replace rowG := rowG.old hB
  clear hB bel11
  go_wp2_with fail
  go_ret
  exact ⟨rfl, bel12⟩
theorem eqW_same (M L : Nat) (cs : List Nat) : decide (M = M ∧ L = L ∧ cs = cs) = true := by simp
theorem neB_same (v : Bool) (w : World) : (!(v == v)) = false := by cases v <;> rfl
set_option maxHeartbeats 4000000 in
set_option maxRecDepth 100000 in
theorem windowTells_any (M L s : Nat) (cs : List Nat) (w : World) (hM : M < 4294967296) (hL : L < 4294967296) (hs : s < 4294967296) (hc : AllLt 4294967296 cs) (hl : cs.length = 4) :
    Calls Try.prog 3 #[.agg (wcs M L cs).toArray, .int .u32 (s : Int)] w fun e w' => e = .returned (.bool true) ∧ Below w.heap.size w w' := by
  have HL := Lib.hid hl
  have CR := fun w0 => Lib.hid (wright_any M L cs w0 hM hL hc hl)
  have CQ := fun w0 => Lib.hid (rwright_any M L cs w0 hM hL hl)
  have CO := fun w0 => Lib.hid (own_any M L cs w0 hl)
  have HPC := Lib.hid (putC_len L cs (s / 3))
  have CP := fun (h : WRt M L cs) w0 => Lib.hid (wput_any M L s cs w0 hM hL hs h.2 hl)
  have CPR := fun (h : WRt M L cs) w0 => Lib.hid (rwput_any M L s cs w0 hM hL hs h.2 hl)
  have CRL := fun (h : WRt M L cs) w0 => Lib.hid (wrel_any M L s cs w0 hM hL hs h.2 hl)
  have CRR := fun (h : WRt M L cs) w0 => Lib.hid (rwrel_any M L s cs w0 hM hL hs h.2 hl)
  obtain ⟨v, hv⟩ : ∃ v : Bool, v = decide (WRt M L cs) := ⟨_, rfl⟩
  rw [← hv] at CR CQ
  have HV := Lib.hid hv
  clear hl hc hv
  generalize putL L cs (s / 3) = pl at CP CPR
  generalize putC L cs (s / 3) = pc at CP CPR HPC
  generalize putE L cs (s / 3) = pe at CP CPR
  generalize putM M L cs s = pm at CP CPR
  generalize relN M L cs s = rv at CRL CRR
  go_enter Try.func3, Try.ntmps3
  go_wp2_with (first
    | ((with_reducible refine at_slot 2 ?_); (refine arm_box (o := ⟨some 2, _, _, _, _, _⟩) rfl _ _ rfl (wcs M L cs) rfl ?_); intro B wa Be hwa nwa))
  refine (awake_any _).mono ?_
  rintro e wb ⟨rfl, hB⟩
  have rB := hwa.old hB
  have bel1 := below_step nwa.below nwa.below.size hB
  clear Be hwa nwa hB
  clear wa
  go_wp2_with fail
  refine wp_region_held (S := fun w' => Below wb.drew.heap.size wb.drew w') (by kernel_rfl) ?_
  change wpAnyH _ _ _ _ _ _ _ _ wb.drew
  have rz : Row wb.drew B 27 (wcs M L cs) := rB
  have belz : Below w.heap.size w wb.drew := bel1.trans ((Below.refl _ _).drew)
  generalize wb.drew = wz at rz belz ⊢
  clear rB bel1
  clear wb
  have hS : Below wz.heap.size wz wz := Below.refl _ _
  refine h_take 0 (.agg (wcs M L cs).toArray) rfl 11 rfl (by kernel_rfl) (by kernel_rfl) (by kernel_rfl) (by kernel_rfl) (fun _ _ _ h => h) (fun w' hC => run_op_load _ _ rfl B 0 rfl (wcs M L cs) (row_all (rz.old hC)) (sz_win HL.out)) hS ?_
  simp only [Act.put, List.setIfInBounds_toArray, List.set_cons_zero, List.set_cons_succ]
  refine h_take 2 (.agg (wcs M L cs).toArray) rfl 13 rfl (by kernel_rfl) (by kernel_rfl) (by kernel_rfl) (by kernel_rfl) (fun _ _ _ h => h) (fun w' hC => run_op_load _ _ rfl B 0 rfl (wcs M L cs) (row_all (rz.old hC)) (sz_win HL.out)) hS ?_
  simp only [Act.put, List.setIfInBounds_toArray, List.set_cons_zero, List.set_cons_succ]
  refine h_one (i := 1) (by kernel_rfl) (o_call rfl 12 rfl (by kernel_rfl) (run_op_call 7 _ _ rfl #[.agg (wcs M L cs).toArray] (by simp only [List.map_toArray, List.map_cons, List.map_nil]; rfl) Try.func7 (by kernel_rfl) (by kernel_rfl) _) ((CR _).out) ?_)
  rintro e y1 ⟨rfl, hB1⟩
  have hS1 : Below wz.heap.size wz y1 := below_step hS hS.size hB1
  refine ⟨_, rfl, hS1, ?_⟩
  clear hB1
  simp only [Act.put, List.setIfInBounds_toArray, List.set_cons_zero, List.set_cons_succ]
  refine h_one (i := 3) (by kernel_rfl) (o_call rfl 14 rfl (by kernel_rfl) (run_op_call 9 _ _ rfl #[.agg (wcs M L cs).toArray] (by simp only [List.map_toArray, List.map_cons, List.map_nil]; rfl) Try.func9 (by kernel_rfl) (by kernel_rfl) _) ((CO _).out) ?_)
  rintro e y2 ⟨rfl, hB2⟩
  have hS2 : Below wz.heap.size wz y2 := below_step hS1 hS1.size hB2
  refine ⟨_, rfl, hS2, ?_⟩
  clear hB2
  simp only [Act.put, List.setIfInBounds_toArray, List.set_cons_zero, List.set_cons_succ]
  refine h_one (i := 4) (by kernel_rfl) (o_call rfl 15 rfl (by kernel_rfl) (run_op_call 8 _ _ rfl #[.agg (wcs M L cs).toArray] (by simp only [List.map_toArray, List.map_cons, List.map_nil]; rfl) Try.func8 (by kernel_rfl) (by kernel_rfl) _) ((CQ _).out) ?_)
  rintro e y3 ⟨rfl, hB3⟩
  have hS3 : Below wz.heap.size wz y3 := below_step hS2 hS2.size hB3
  refine ⟨_, rfl, hS3, ?_⟩
  clear hB3
  simp only [Act.put, List.setIfInBounds_toArray, List.set_cons_zero, List.set_cons_succ]
  refine h_take 5 (.bool false) rfl 16 rfl (by kernel_rfl) (by kernel_rfl) (by kernel_rfl) (by kernel_rfl) (fun _ _ _ h => h) (fun w' _ => by cases v <;> kernel_rfl) hS3 ?_
  simp only [Act.put, List.setIfInBounds_toArray, List.set_cons_zero, List.set_cons_succ]
  refine h_take 6 (.bool false) rfl 17 rfl (by kernel_rfl) (by kernel_rfl) (by kernel_rfl) (by kernel_rfl) (fun _ _ _ h => h) (fun w' _ => by kernel_rfl) hS3 ?_
  simp only [Act.put, List.setIfInBounds_toArray, List.set_cons_zero, List.set_cons_succ]
  refine h_one (i := 7) (by kernel_rfl) (o_call rfl 18 rfl (by kernel_rfl) (run_op_call 10 _ _ rfl #[] (by simp only [List.map_toArray, List.map_nil]) Try.func10 (by kernel_rfl) (by kernel_rfl) _) (wgenesis_any _) ?_)
  rintro e y4 ⟨rfl, hB4⟩
  have hS4 : Below wz.heap.size wz y4 := below_step hS3 hS3.size hB4
  refine ⟨_, rfl, hS4, ?_⟩
  clear hB4
  simp only [Act.put, List.setIfInBounds_toArray, List.set_cons_zero, List.set_cons_succ]
  refine h_one (i := 8) (by kernel_rfl) (o_call rfl 19 rfl (by kernel_rfl) (run_op_call 9 _ _ rfl #[.agg (wcs 12 0 [1, 3, 3, 3]).toArray] (by simp only [List.map_toArray, List.map_cons, List.map_nil]; rfl) Try.func9 (by kernel_rfl) (by kernel_rfl) _) (own_any 12 0 [1, 3, 3, 3] _ rfl) ?_)
  rintro e y5 ⟨rfl, hB5⟩
  have hS5 : Below wz.heap.size wz y5 := below_step hS4 hS4.size hB5
  refine ⟨_, rfl, hS5, ?_⟩
  clear hB5
  simp only [Act.put, List.setIfInBounds_toArray, List.set_cons_zero, List.set_cons_succ]
  refine h_one (i := 9) (by kernel_rfl) (o_call rfl 20 rfl (by kernel_rfl) (run_op_call 11 _ _ rfl #[] (by simp only [List.map_toArray, List.map_nil]) Try.func11 (by kernel_rfl) (by kernel_rfl) _) (rwgenesis_any _) ?_)
  rintro e y6 ⟨rfl, hB6⟩
  have hS6 : Below wz.heap.size wz y6 := below_step hS5 hS5.size hB6
  refine ⟨_, rfl, hS6, ?_⟩
  clear hB6
  simp only [Act.put, List.setIfInBounds_toArray, List.set_cons_zero, List.set_cons_succ]
  refine h_take 10 (.bool false) rfl 21 rfl (by kernel_rfl) (by kernel_rfl) (by kernel_rfl) (by kernel_rfl) (fun _ _ _ h => h) (fun w' _ => (run_op_neqW _ _ _ rfl 12 0 12 0 [1, 3, 3, 3] [1, 3, 3, 3] rfl rfl rfl rfl w').trans rfl) hS6 ?_
  simp only [Act.put, List.setIfInBounds_toArray, List.set_cons_zero, List.set_cons_succ]
  refine h_take 11 (.bool false) rfl 22 rfl (by kernel_rfl) (by kernel_rfl) (by kernel_rfl) (by kernel_rfl) (fun _ _ _ h => h) (fun w' _ => by kernel_rfl) hS6 ?_
  simp only [Act.put, List.setIfInBounds_toArray, List.set_cons_zero, List.set_cons_succ]
  refine wpAnyH_done (by kernel_rfl) ?_ _
  have bel2 := below_step belz belz.size hS6
  have rB := rz.old hS6
  clear belz rz hS hS1 hS2 hS3 hS4 hS5 hS6
  go_wp2_with (first
    | ((with_reducible refine at_slot 23 ?_); (refine arm_load (o := ⟨some 23, _, _, _, _, _⟩) rfl _ _ rfl B 0 rfl (wcs M L cs) (row_all rB) (sz_win HL.out) ?_)))
  refine (CO _).out.mono ?_
  rintro e wc ⟨rfl, hB⟩
  have bel3 := below_step bel2 bel2.size hB
  replace rB := rB.old hB
  clear bel2 hB
  go_wp2_with fail
  refine (CQ _).out.mono ?_
  rintro e wd ⟨rfl, hB⟩
  have bel4 := below_step bel3 bel3.size hB
  replace rB := rB.old hB
  clear bel3 hB CQ CR
  clear wc
  cases v with
  | false =>
    go_wp2_with fail
    go_ret
    exact ⟨rfl, bel4⟩
  | true =>
    have hw : WRt M L cs := of_decide_eq_true HV.out.symm
    have CP := CP hw; have CPR := CPR hw; have CRL := CRL hw; have CRR := CRR hw
    clear hw HV
    go_wp2_with (first
      | ((with_reducible refine at_slot 28 ?_); (refine arm_load (o := ⟨some 28, _, _, _, _, _⟩) rfl _ _ rfl B 0 rfl (wcs M L cs) (row_all rB) (sz_win HL.out) ?_)))
    refine (CP _).out.mono ?_
    rintro e we ⟨rfl, hB⟩
    have bel5 := below_step bel4 bel4.size hB
    replace rB := rB.old hB
    clear bel4 hB CP
    go_wp2_with (first
      | ((with_reducible refine at_slot 5 ?_); (refine arm_alloc (o := ⟨some 5, _, _, _, _, _⟩) rfl _ rfl (wcs 0 0 [0, 0, 0, 0]) z_win ?_); intro X va Xe hva nva)
      | ((with_reducible refine arm_store (o := ⟨none, _, _, _, _, _⟩) rfl _ _ _ rfl X 0 rfl (wcs pm pl pc) rfl _ _ (hva) (fit6 HPC.out) (wcs_one _ _ _) (sz_win HPC.out) ?_); intro vb hvb ovb svb); have rB2 := (rB.old nva.below).only ovb (by have := Xe.out; have := rB.lt; omega)
      | ((with_reducible refine at_slot 34 ?_); (refine arm_load (o := ⟨some 34, _, _, _, _, _⟩) rfl _ _ rfl B 0 rfl (wcs M L cs) (row_all rB2) (sz_win HL.out) ?_)))
    have rX : Row vb X 27 (wcs pm pl pc) := hvb.congr (lay_all _ _ (len6 HPC.out))
    have eN := Xe.out; have sN := nva.size; have tN := svb.out; have zN := bel5.size
    have bel6 : Below w.heap.size w vb := below_only (below_step bel5 zN nva.below) ovb (by omega) (by omega)
    clear eN sN tN zN Xe hva nva hvb ovb svb bel5 rB
    refine (CO _).out.mono ?_
    rintro e wf ⟨rfl, hB⟩
    have bel7 := below_step bel6 bel6.size hB
    replace rB2 := rB2.old hB
    replace rX := rX.old hB
    clear bel6 hB
    go_wp2_with fail
    refine (CPR _).out.mono ?_
    rintro e wg ⟨rfl, hB⟩
    have bel8 := below_step bel7 bel7.size hB
    replace rB2 := rB2.old hB
    replace rX := rX.old hB
    clear bel7 hB CPR
    go_wp2_with (first
      | ((with_reducible refine at_slot 7 ?_); (refine arm_alloc (o := ⟨some 7, _, _, _, _, _⟩) rfl _ rfl (wcs 0 0 [0, 0, 0, 0]) z_rwin ?_); intro Y vc Ye hvc nvc)
      | ((with_reducible refine arm_store (o := ⟨none, _, _, _, _, _⟩) rfl _ _ _ rfl Y 0 rfl (wcs pm pl pc) rfl _ _ (hvc) (fit6 HPC.out) (wcs_one _ _ _) (sz_rwin HPC.out) ?_); intro vd hvd ovd svd))
    have rY : Row vd Y 33 (wcs pm pl pc) := hvd.congr (lay_all _ _ (len6 HPC.out))
    have eN := Ye.out; have sN := nvc.size; have tN := svd.out; have zN := bel8.size; have lB := rB2.lt; have lX := rX.lt
    have bel9 : Below w.heap.size w vd := below_only (below_step bel8 zN nvc.below) ovd (by omega) (by omega)
    replace rB2 := (rB2.old nvc.below).only ovd (by omega)
    replace rX := (rX.old nvc.below).only ovd (by omega)
    clear eN sN tN zN lB lX Ye hvc nvc hvd ovd svd bel8
    refine wp_region_held (S := fun w' => Below vd.drew.heap.size vd.drew w') (by kernel_rfl) ?_
    change wpAnyH _ _ _ _ _ _ _ _ vd.drew
    have rz : Row vd.drew B 27 (wcs M L cs) := rB2
    have xz : Row vd.drew X 27 (wcs pm pl pc) := rX
    have yz : Row vd.drew Y 33 (wcs pm pl pc) := rY
    have belz : Below w.heap.size w vd.drew := bel9.trans ((Below.refl _ _).drew)
    generalize vd.drew = wz at rz xz yz belz ⊢
    clear rB2 rX rY bel9
    clear vd
    have hS : Below wz.heap.size wz wz := Below.refl _ _
    refine h_take 0 (.agg (wcs pm pl pc).toArray) rfl 40 rfl (by kernel_rfl) (by kernel_rfl) (by kernel_rfl) (by kernel_rfl) (fun _ _ _ h => h) (fun w' hC => run_op_load _ _ rfl X 0 rfl (wcs pm pl pc) (row_all (xz.old hC)) (sz_win HPC.out)) hS ?_
    simp only [Act.put, List.setIfInBounds_toArray, List.set_cons_zero, List.set_cons_succ]
    refine h_take 2 (.agg (wcs pm pl pc).toArray) rfl 42 rfl (by kernel_rfl) (by kernel_rfl) (by kernel_rfl) (by kernel_rfl) (fun _ _ _ h => h) (fun w' hC => run_op_load _ _ rfl Y 0 rfl (wcs pm pl pc) (row_all (yz.old hC)) (sz_rwin HPC.out)) hS ?_
    simp only [Act.put, List.setIfInBounds_toArray, List.set_cons_zero, List.set_cons_succ]
    refine h_one (i := 1) (by kernel_rfl) (o_call rfl 41 rfl (by kernel_rfl) (run_op_call 9 _ _ rfl #[.agg (wcs pm pl pc).toArray] (by simp only [List.map_toArray, List.map_cons, List.map_nil]; rfl) Try.func9 (by kernel_rfl) (by kernel_rfl) _) (own_any pm pl pc _ HPC.out) ?_)
    rintro e y1 ⟨rfl, hB1⟩
    have hS1 : Below wz.heap.size wz y1 := below_step hS hS.size hB1
    refine ⟨_, rfl, hS1, ?_⟩
    clear hB1
    simp only [Act.put, List.setIfInBounds_toArray, List.set_cons_zero, List.set_cons_succ]
    refine h_take 3 (.bool true) rfl 43 rfl (by kernel_rfl) (by kernel_rfl) (by kernel_rfl) (by kernel_rfl) (fun _ _ _ h => h) (fun w' _ => (run_op_eqlW _ _ _ rfl pm pl pm pl pc pc HPC.out HPC.out rfl rfl w').trans (by rw [eqW_same])) hS1 ?_
    simp only [Act.put, List.setIfInBounds_toArray, List.set_cons_zero, List.set_cons_succ]
    refine h_take 4 (.bool true) rfl 44 rfl (by kernel_rfl) (by kernel_rfl) (by kernel_rfl) (by kernel_rfl) (fun _ _ _ h => h) (fun w' _ => by kernel_rfl) hS1 ?_
    simp only [Act.put, List.setIfInBounds_toArray, List.set_cons_zero, List.set_cons_succ]
    refine h_take 5 (.int .i64 pe) rfl 45 rfl (by kernel_rfl) (by kernel_rfl) (by kernel_rfl) (by kernel_rfl) (fun _ _ _ h => h) (fun w' _ => by kernel_rfl) hS1 ?_
    simp only [Act.put, List.setIfInBounds_toArray, List.set_cons_zero, List.set_cons_succ]
    refine h_take 6 (.int .i64 pe) rfl 46 rfl (by kernel_rfl) (by kernel_rfl) (by kernel_rfl) (by kernel_rfl) (fun _ _ _ h => h) (fun w' _ => by kernel_rfl) hS1 ?_
    simp only [Act.put, List.setIfInBounds_toArray, List.set_cons_zero, List.set_cons_succ]
    refine h_take 7 (.bool true) rfl 47 rfl (by kernel_rfl) (by kernel_rfl) (by kernel_rfl) (by kernel_rfl) (fun _ _ _ h => h) (fun w' _ => (run_op_eqlI _ _ .i64 (by kernel_rfl) _ _ rfl .i64 _ _ rfl rfl w').trans (by rw [eqI_same])) hS1 ?_
    simp only [Act.put, List.setIfInBounds_toArray, List.set_cons_zero, List.set_cons_succ]
    refine h_take 8 (.bool true) rfl 48 rfl (by kernel_rfl) (by kernel_rfl) (by kernel_rfl) (by kernel_rfl) (fun _ _ _ h => h) (fun w' _ => by kernel_rfl) hS1 ?_
    simp only [Act.put, List.setIfInBounds_toArray, List.set_cons_zero, List.set_cons_succ]
    refine h_take 9 (.bool true) rfl 49 rfl (by kernel_rfl) (by kernel_rfl) (by kernel_rfl) (by kernel_rfl) (fun _ _ _ h => h) (fun w' _ => by kernel_rfl) hS1 ?_
    simp only [Act.put, List.setIfInBounds_toArray, List.set_cons_zero, List.set_cons_succ]
    refine h_take 10 (.agg (wcs M L cs).toArray) rfl 50 rfl (by kernel_rfl) (by kernel_rfl) (by kernel_rfl) (by kernel_rfl) (fun _ _ _ h => h) (fun w' hC => run_op_load _ _ rfl B 0 rfl (wcs M L cs) (row_all (rz.old hC)) (sz_win HL.out)) hS1 ?_
    simp only [Act.put, List.setIfInBounds_toArray, List.set_cons_zero, List.set_cons_succ]
    refine h_take 11 (.int .u32 (s : Int)) rfl 51 rfl (by kernel_rfl) (by kernel_rfl) (by kernel_rfl) (by kernel_rfl) (fun _ _ _ h => h) (fun w' _ => by kernel_rfl) hS1 ?_
    simp only [Act.put, List.setIfInBounds_toArray, List.set_cons_zero, List.set_cons_succ]
    refine h_take 13 (.agg (wcs M L cs).toArray) rfl 53 rfl (by kernel_rfl) (by kernel_rfl) (by kernel_rfl) (by kernel_rfl) (fun _ _ _ h => h) (fun w' hC => run_op_load _ _ rfl B 0 rfl (wcs M L cs) (row_all (rz.old hC)) (sz_win HL.out)) hS1 ?_
    simp only [Act.put, List.setIfInBounds_toArray, List.set_cons_zero, List.set_cons_succ]
    refine h_take 15 (.int .u32 (s : Int)) rfl 55 rfl (by kernel_rfl) (by kernel_rfl) (by kernel_rfl) (by kernel_rfl) (fun _ _ _ h => h) (fun w' _ => by kernel_rfl) hS1 ?_
    simp only [Act.put, List.setIfInBounds_toArray, List.set_cons_zero, List.set_cons_succ]
    refine h_one (i := 12) (by kernel_rfl) (o_call rfl 52 rfl (by kernel_rfl) (run_op_call 14 _ _ rfl #[.agg (wcs M L cs).toArray, .int .u32 (s : Int)] (by simp only [List.map_toArray, List.map_cons, List.map_nil]; rfl) Try.func14 (by kernel_rfl) (by kernel_rfl) _) ((CRL _).out) ?_)
    rintro e y2 ⟨rfl, hB2⟩
    have hS2 : Below wz.heap.size wz y2 := below_step hS1 hS1.size hB2
    refine ⟨_, rfl, hS2, ?_⟩
    clear hB2
    simp only [Act.put, List.setIfInBounds_toArray, List.set_cons_zero, List.set_cons_succ]
    refine h_one (i := 14) (by kernel_rfl) (o_call rfl 54 rfl (by kernel_rfl) (run_op_call 9 _ _ rfl #[.agg (wcs M L cs).toArray] (by simp only [List.map_toArray, List.map_cons, List.map_nil]; rfl) Try.func9 (by kernel_rfl) (by kernel_rfl) _) ((CO _).out) ?_)
    rintro e y3 ⟨rfl, hB3⟩
    have hS3 : Below wz.heap.size wz y3 := below_step hS2 hS2.size hB3
    refine ⟨_, rfl, hS3, ?_⟩
    clear hB3
    simp only [Act.put, List.setIfInBounds_toArray, List.set_cons_zero, List.set_cons_succ]
    refine h_one (i := 16) (by kernel_rfl) (o_call rfl 56 rfl (by kernel_rfl) (run_op_call 15 _ _ rfl #[.agg (wcs M L cs).toArray, .int .u32 (s : Int)] (by simp only [List.map_toArray, List.map_cons, List.map_nil]; rfl) Try.func15 (by kernel_rfl) (by kernel_rfl) _) ((CRR _).out) ?_)
    rintro e y4 ⟨rfl, hB4⟩
    have hS4 : Below wz.heap.size wz y4 := below_step hS3 hS3.size hB4
    refine ⟨_, rfl, hS4, ?_⟩
    clear hB4
    simp only [Act.put, List.setIfInBounds_toArray, List.set_cons_zero, List.set_cons_succ]
    refine h_take 17 (.bool true) rfl 57 rfl (by kernel_rfl) (by kernel_rfl) (by kernel_rfl) (by kernel_rfl) (fun _ _ _ h => h) (fun w' _ => (run_op_eqlI _ _ .u32 (by kernel_rfl) _ _ rfl .u32 _ _ rfl rfl w').trans (by rw [eqI_same])) hS4 ?_
    simp only [Act.put, List.setIfInBounds_toArray, List.set_cons_zero, List.set_cons_succ]
    refine h_take 18 (.bool true) rfl 58 rfl (by kernel_rfl) (by kernel_rfl) (by kernel_rfl) (by kernel_rfl) (fun _ _ _ h => h) (fun w' _ => by kernel_rfl) hS4 ?_
    simp only [Act.put, List.setIfInBounds_toArray, List.set_cons_zero, List.set_cons_succ]
    refine h_take 19 (.bool true) rfl 4 rfl (by kernel_rfl) (by kernel_rfl) (by kernel_rfl) (by kernel_rfl) (fun _ _ _ h => h) (fun w' _ => by kernel_rfl) hS4 ?_
    simp only [Act.put, List.setIfInBounds_toArray, List.set_cons_zero, List.set_cons_succ]
    refine wpAnyH_done (by kernel_rfl) ?_ _
    have belF := below_step belz belz.size hS4
    go_wp2_with fail
    go_ret
    exact ⟨rfl, belF⟩
end Go.Proofs.Ytbbmjjphkmjnbaa.Wn
