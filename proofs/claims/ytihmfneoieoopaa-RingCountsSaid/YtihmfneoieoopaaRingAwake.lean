/-
  Operations of whatever guard, once they are wanted; a struct written out, run; the contract of layer 6's awake over this seat's translation.
-/
import Derived.Test.YtihmfneoieoopaaRingPut
namespace Go.Proofs.Ytihmfneoieoopaa.Mem
open Go.RowKit
section
variable {P : Program} {ops : Array Oper} {rest : List Oper} {o : Oper} {a : Act} {w : World} {Q : Exit → Act → World → Prop}
/-- An operation that is wanted and yields a value. -/
theorem arm_want (v : Value) (d : Tmp) (hd : o.dst = some d) (hw : Region.wanted o (yielded ops a.tmps) = true) (hr : (execOp a.eval o).run P w = .ok (.value v) w) (h : wpList P ops Q rest (a.put (some d) v) w) : wpList P ops Q (o :: rest) a w :=
  BigFrame.wpList_want hw fun K hK => by
    unfold Oper.wp
    rw [hr]
    rw [← hd] at h
    exact hK _ _ h
/-- A struct or array that is written out, run. -/
theorem run_op_build (t : TypeId) (parts : Array (Nat × Operand)) (ho : o.op = .build t parts) (vs : List Value) (hb : P.built t (parts.map fun (i, x) => (i, a.eval x)).toList = some vs.toArray) (w : World) : (execOp a.eval o).run P w = .ok (.value (.agg vs.toArray)) w := by
  unfold execOp
  simp only [ho, Sem.run_bind, run_build w t _ vs.toArray hb, Result.andThen_ok, Sem.run_pure]
end
end Go.Proofs.Ytihmfneoieoopaa.Mem
namespace Go.Proofs.Ytihmfneoieoopaa.Rg
open Go.ChangeShapes Go.WideShapes Go.ChangeAt Go.RowKit Go.Proofs.Ytihmfneoieoopaa.Mem Go.Proofs.Ytihmfneoieoopaa.Bt
set_option linter.unusedVariables false
set_option linter.unusedSimpArgs false

theorem small_of (cs : List Nat) (h : (cs.all fun x => decide (x ≤ 3)) = true) : Small cs := fun i hi => by
  by_cases hl : i < cs.length
  · rw [List.getD_eq_getElem?_getD, List.getElem?_eq_getElem hl]
    exact of_decide_eq_true (List.all_eq_true.1 h _ (List.getElem_mem hl))
  · rw [List.getD_eq_getElem?_getD, List.getElem?_eq_none (by omega)]; exact Nat.zero_le _
theorem awk_put0 (w : World) : Calls Try.prog 14 #[.agg (rcs 0 [1, 3, 3, 3]).toArray, .int .u32 0] w fun e w' => e = .returned (.tuple #[.agg (rcs 0 [2, 3, 3, 3]).toArray, .int .i64 0]) ∧ Below w.heap.size w w' :=
  put_ok 0 0 [1, 3, 3, 3] w (by decide) (by decide) (by decide) rfl
theorem awk_put2 (w : World) : Calls Try.prog 14 #[.agg (rcs 0 [2, 3, 3, 3]).toArray, .int .u32 2] w fun e w' => e = .returned (.tuple #[.agg (rcs 2 [2, 0, 1, 3]).toArray, .int .i64 0]) ∧ Below w.heap.size w w' :=
  put_ok 0 2 [2, 3, 3, 3] w (by decide) (by decide) (by decide) rfl
theorem awk_put1 (w : World) : Calls Try.prog 14 #[.agg (rcs 2 [2, 0, 1, 3]).toArray, .int .u32 1] w fun e w' => e = .returned (.tuple #[.agg (rcs 0 [0, 0, 0, 0]).toArray, .int .i64 6]) ∧ Below w.heap.size w w' :=
  put_early 2 1 [2, 0, 1, 3] w (by decide) rfl
theorem awk_before (w : World) : Calls Try.prog 12 #[.agg (rcs 0 [2, 3, 3, 3]).toArray, .int .u32 2] w fun e w' => e = .returned (.tuple #[.int .u32 8, .int .i64 0]) ∧ Below w.heap.size w w' :=
  before_any 0 2 [2, 3, 3, 3] w (by decide) (by decide) (small_of _ (by decide)) rfl
theorem awk_right (w : World) : Calls Try.prog 8 #[.agg (rcs 2 [2, 0, 1, 3]).toArray] w fun e w' => e = .returned (.bool true) ∧ Below w.heap.size w w' := by
  have h := right_any 2 [2, 0, 1, 3] w (by decide) (by intro x hx; simp at hx; omega) rfl
  rw [show decide (Rt 2 [2, 0, 1, 3]) = true by decide] at h
  exact h
theorem awk_wrong (w : World) : Calls Try.prog 8 #[.agg (rcs 0 [0, 0, 0, 0]).toArray] w fun e w' => e = .returned (.bool false) ∧ Below w.heap.size w w' := by
  have h := right_any 0 [0, 0, 0, 0] w (by decide) (by intro x hx; simp at hx; omega) rfl
  rw [show decide (Rt 0 [0, 0, 0, 0]) = false by decide] at h
  exact h
theorem awk_sum (w : World) : Calls Try.prog 16 #[.agg (rcs 2 [2, 0, 1, 3]).toArray] w fun e w' => e = .returned (.int .u32 6) ∧ Below w.heap.size w w' :=
  sum_any 2 [2, 0, 1, 3] w (small_of _ (by decide)) rfl
set_option maxHeartbeats 2000000 in
set_option maxRecDepth 100000 in
theorem awake_any (w : World) : Calls Try.prog 7 #[] w fun e w' => e = .returned (.bool true) ∧ Below w.heap.size w w' := by
  go_enter Try.func7, Try.ntmps7
  go_wp2_with fail
  refine (genesis_any w).mono ?_
  rintro e w1 ⟨rfl, hB1⟩
  have bel1 : Below w.heap.size w w1 := hB1
  clear hB1
  go_wp2_with (first
    | ((with_reducible refine at_slot 1 ?_); (refine arm_alloc (o := ⟨some 1, _, _, _, _, _⟩) rfl _ rfl (rcs 0 [0, 0, 0, 0]) z_ring ?_); intro G va Ge hRva hNva)
    | ((with_reducible refine arm_store (o := ⟨none, _, _, _, _, _⟩) rfl _ _ _ rfl G 0 rfl (rcs 0 [1, 3, 3, 3]) rfl _ _ hRva (by rw [rcs_len rfl, z_len]; omega) (rcs_one _ _) (sz_ring' rfl) ?_); intro vb hRvb hOvb hSvb)
    | ((with_reducible refine at_slot 12 ?_); (refine arm_load (o := ⟨some 12, _, _, _, _, _⟩) rfl _ _ rfl G 0 rfl (rcs 0 [1, 3, 3, 3]) (row_all (hRvb.congr (lay_all _ _ (by rw [rcs_len rfl, z_len])))) (sz_ring' rfl) ?_)))
  have rowG : Row vb G 25 (rcs 0 [1, 3, 3, 3]) := hRvb.congr (lay_all _ _ (by rw [rcs_len rfl, z_len]))
  have eG := Ge.out; have sG := hNva.size; have tG := hSvb.out; have zG := bel1.size
  have bel2 : Below w.heap.size w vb := below_only (below_step bel1 zG hNva.below) hOvb (by omega) (by omega)
  clear eG sG tG zG Ge hRva hNva hRvb hOvb hSvb bel1
  refine (awk_put0 _).mono ?_
  rintro e w3 ⟨rfl, hB3⟩
  have bel3 : Below w.heap.size w w3 := below_step bel2 bel2.size hB3
  replace rowG := rowG.old hB3
  clear hB3 bel2
  go_wp2_with (first
    | ((with_reducible refine at_slot 2 ?_); (refine arm_alloc (o := ⟨some 2, _, _, _, _, _⟩) rfl _ rfl (rcs 0 [0, 0, 0, 0]) z_ring ?_); intro X xa Xe hRxa hNxa)
    | ((with_reducible refine arm_store (o := ⟨none, _, _, _, _, _⟩) rfl _ _ _ rfl X 0 rfl (rcs 0 [2, 3, 3, 3]) rfl _ _ hRxa (by rw [rcs_len rfl, z_len]; omega) (rcs_one _ _) (sz_ring' rfl) ?_); intro xb hRxb hOxb hSxb)
    | ((with_reducible refine at_slot 17 ?_); (refine arm_load (o := ⟨some 17, _, _, _, _, _⟩) rfl _ _ rfl X 0 rfl (rcs 0 [2, 3, 3, 3]) (row_all (hRxb.congr (lay_all _ _ (by rw [rcs_len rfl, z_len])))) (sz_ring' rfl) ?_)))
  have rowX : Row xb X 25 (rcs 0 [2, 3, 3, 3]) := hRxb.congr (lay_all _ _ (by rw [rcs_len rfl, z_len]))
  have eX := Xe.out; have sX := hNxa.size; have tX := hSxb.out; have zX := bel3.size
  have bel4 : Below w.heap.size w xb := below_only (below_step bel3 zX hNxa.below) hOxb (by omega) (by omega)
  have lGX := rowG.lt
  replace rowG := (rowG.old hNxa.below).only hOxb (by omega)
  clear lGX
  clear eX sX tX zX Xe hRxa hNxa hRxb hOxb hSxb bel3
  refine (awk_put2 _).mono ?_
  rintro e w5 ⟨rfl, hB5⟩
  have bel5 : Below w.heap.size w w5 := below_step bel4 bel4.size hB5
  replace rowG := rowG.old hB5
  replace rowX := rowX.old hB5
  clear hB5 bel4
  go_wp2_with (first
    | ((with_reducible refine at_slot 4 ?_); (refine arm_alloc (o := ⟨some 4, _, _, _, _, _⟩) rfl _ rfl (rcs 0 [0, 0, 0, 0]) z_ring ?_); intro Y ya Ye hRya hNya)
    | ((with_reducible refine arm_store (o := ⟨none, _, _, _, _, _⟩) rfl _ _ _ rfl Y 0 rfl (rcs 2 [2, 0, 1, 3]) rfl _ _ hRya (by rw [rcs_len rfl, z_len]; omega) (rcs_one _ _) (sz_ring' rfl) ?_); intro yb hRyb hOyb hSyb)
    | ((with_reducible refine at_slot 22 ?_); (refine arm_load (o := ⟨some 22, _, _, _, _, _⟩) rfl _ _ rfl X 0 rfl (rcs 0 [2, 3, 3, 3]) (row_all ((rowX.old hNya.below).only hOyb (by have := Ye.out; have := rowX.lt; omega))) (sz_ring' rfl) ?_)))
  have rowY : Row yb Y 25 (rcs 2 [2, 0, 1, 3]) := hRyb.congr (lay_all _ _ (by rw [rcs_len rfl, z_len]))
  have eY := Ye.out; have sY := hNya.size; have tY := hSyb.out; have zY := bel5.size
  have bel6 : Below w.heap.size w yb := below_only (below_step bel5 zY hNya.below) hOyb (by omega) (by omega)
  have lGY := rowG.lt
  replace rowG := (rowG.old hNya.below).only hOyb (by omega)
  clear lGY
  have lXY := rowX.lt
  replace rowX := (rowX.old hNya.below).only hOyb (by omega)
  clear lXY
  clear eY sY tY zY Ye hRya hNya hRyb hOyb hSyb bel5
  refine (awk_before _).mono ?_
  rintro e w7 ⟨rfl, hB7⟩
  have bel7 : Below w.heap.size w w7 := below_step bel6 bel6.size hB7
  replace rowG := rowG.old hB7
  replace rowX := rowX.old hB7
  replace rowY := rowY.old hB7
  clear hB7 bel6
  go_wp2_with (first
    | ((with_reducible refine at_slot 27 ?_); (refine arm_load (o := ⟨some 27, _, _, _, _, _⟩) rfl _ _ rfl Y 0 rfl (rcs 2 [2, 0, 1, 3]) (row_all rowY) (sz_ring' rfl) ?_)))
  refine (awk_put1 _).mono ?_
  rintro e w8 ⟨rfl, hB8⟩
  have bel8 : Below w.heap.size w w8 := below_step bel7 bel7.size hB8
  replace rowG := rowG.old hB8
  replace rowX := rowX.old hB8
  replace rowY := rowY.old hB8
  clear hB8 bel7
  go_wp2_with (first
    | ((with_reducible refine at_slot 8 ?_); (refine arm_alloc (o := ⟨some 8, _, _, _, _, _⟩) rfl _ rfl (rcs 0 [0, 0, 0, 0]) z_ring ?_); intro Z za Ze hRza hNza)
    | ((with_reducible refine arm_store (o := ⟨none, _, _, _, _, _⟩) rfl _ _ _ rfl Z 0 rfl (rcs 0 [0, 0, 0, 0]) rfl _ _ hRza (by rw [z_len]; omega) (rcs_one _ _) (sz_ring' rfl) ?_); intro zb hRzb hOzb hSzb)
    | ((with_reducible refine at_slot 31 ?_); (refine arm_want (.agg (rcs 0 [1, 3, 3, 3]).toArray) 31 rfl (by kernel_rfl) (run_op_load _ _ rfl G 0 rfl (rcs 0 [1, 3, 3, 3]) (row_all ((rowG.old hNza.below).only hOzb (by have := Ze.out; have := rowG.lt; omega))) (sz_ring' rfl)) ?_))
    | ((with_reducible refine at_slot 32 ?_); (refine arm_want (.agg (u32s [1, 3, 3, 3]).toArray) 32 rfl (by kernel_rfl) (run_op_build _ _ rfl (u32s [1, 3, 3, 3]) (by kernel_rfl) _) ?_))
    | ((with_reducible refine at_slot 33 ?_); (refine arm_want (.agg (rcs 0 [1, 3, 3, 3]).toArray) 33 rfl (by kernel_rfl) (run_op_build _ _ rfl (rcs 0 [1, 3, 3, 3]) (by kernel_rfl) _) ?_))
    | ((with_reducible refine at_slot 34 ?_); (refine arm_want (.bool true) 34 rfl (by kernel_rfl) ((run_op_eqlR _ _ _ rfl 0 0 [1, 3, 3, 3] [1, 3, 3, 3] rfl rfl rfl rfl _).trans rfl) ?_))
    | ((with_reducible refine at_slot 44 ?_); (refine arm_want (.agg (rcs 2 [2, 0, 1, 3]).toArray) 44 rfl (by kernel_rfl) (run_op_load _ _ rfl Y 0 rfl (rcs 2 [2, 0, 1, 3]) (row_all ((rowY.old hNza.below).only hOzb (by have := Ze.out; have := rowY.lt; omega))) (sz_ring' rfl)) ?_))
    | ((with_reducible refine at_slot 45 ?_); (refine arm_want (.agg (u32s [2, 0, 1, 3]).toArray) 45 rfl (by kernel_rfl) (run_op_build _ _ rfl (u32s [2, 0, 1, 3]) (by kernel_rfl) _) ?_))
    | ((with_reducible refine at_slot 46 ?_); (refine arm_want (.agg (rcs 2 [2, 0, 1, 3]).toArray) 46 rfl (by kernel_rfl) (run_op_build _ _ rfl (rcs 2 [2, 0, 1, 3]) (by kernel_rfl) _) ?_))
    | ((with_reducible refine at_slot 47 ?_); (refine arm_want (.bool true) 47 rfl (by kernel_rfl) ((run_op_eqlR _ _ _ rfl 2 2 [2, 0, 1, 3] [2, 0, 1, 3] rfl rfl rfl rfl _).trans rfl) ?_))
    | ((with_reducible refine at_slot 62 ?_); (refine arm_want (.agg (rcs 2 [2, 0, 1, 3]).toArray) 62 rfl (by kernel_rfl) (run_op_load _ _ rfl Y 0 rfl (rcs 2 [2, 0, 1, 3]) (row_all ((rowY.old hNza.below).only hOzb (by have := Ze.out; have := rowY.lt; omega))) (sz_ring' rfl)) ?_)))
  have rowZ : Row zb Z 25 (rcs 0 [0, 0, 0, 0]) := hRzb.congr (lay_all _ _ (rfl))
  have eZ := Ze.out; have sZ := hNza.size; have tZ := hSzb.out; have zZ := bel8.size
  have bel9 : Below w.heap.size w zb := below_only (below_step bel8 zZ hNza.below) hOzb (by omega) (by omega)
  have lGZ := rowG.lt
  replace rowG := (rowG.old hNza.below).only hOzb (by omega)
  clear lGZ
  have lXZ := rowX.lt
  replace rowX := (rowX.old hNza.below).only hOzb (by omega)
  clear lXZ
  have lYZ := rowY.lt
  replace rowY := (rowY.old hNza.below).only hOzb (by omega)
  clear lYZ
  clear eZ sZ tZ zZ Ze hRza hNza hRzb hOzb hSzb bel8
  refine (awk_right _).mono ?_
  rintro e w10 ⟨rfl, hB10⟩
  have bel10 : Below w.heap.size w w10 := below_step bel9 bel9.size hB10
  replace rowY := rowY.old hB10
  clear hB10 bel9
  go_wp2_with (first
    | ((with_reducible refine at_slot 66 ?_); (refine arm_want (.agg (rcs 0 [0, 0, 0, 0]).toArray) 66 rfl (by kernel_rfl) (run_op_build _ _ rfl (rcs 0 [0, 0, 0, 0]) (by kernel_rfl) _) ?_)))
  refine (awk_wrong _).mono ?_
  rintro e w11 ⟨rfl, hB11⟩
  have bel11 : Below w.heap.size w w11 := below_step bel10 bel10.size hB11
  replace rowY := rowY.old hB11
  clear hB11 bel10
  go_wp2_with (first
    | ((with_reducible refine at_slot 71 ?_); (refine arm_want (.agg (rcs 2 [2, 0, 1, 3]).toArray) 71 rfl (by kernel_rfl) (run_op_load _ _ rfl Y 0 rfl (rcs 2 [2, 0, 1, 3]) (row_all rowY) (sz_ring' rfl)) ?_)))
  refine (awk_sum _).mono ?_
  rintro e w12 ⟨rfl, hB12⟩
  have bel12 : Below w.heap.size w w12 := below_step bel11 bel11.size hB12
  clear hB12 bel11
  go_wp2_with fail
  go_ret
  exact ⟨rfl, bel12⟩
end Go.Proofs.Ytihmfneoieoopaa.Rg
