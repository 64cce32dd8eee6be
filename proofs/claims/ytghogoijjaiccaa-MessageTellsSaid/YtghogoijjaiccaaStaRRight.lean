/-
  The contract of the document's Right of layer 9, over this seat's translation.
-/
import Derived.Test.YtghogoijjaiccaaStaLeaf
import Derived.Test.YtghogoijjaiccaaWinAll
namespace Go.Proofs.Ytghogoijjaiccaa.Sa
open Go.ChangeShapes Go.WideShapes Go.ChangeAt Go.RowKit Go.Proofs.Ytghogoijjaiccaa.Mem Go.Proofs.Ytghogoijjaiccaa.Bt
open Go.Proofs.Ytghogoijjaiccaa.Ep (H32 Dat zh zh_ok num32 dcs dcs_len dcs_one zd zd_ok Has h_len one_app one_num szH)
set_option linter.unusedVariables false
set_option linter.unusedSimpArgs false

set_option maxHeartbeats 8000000 in
set_option maxRecDepth 100000 in
theorem rr_no1 (s : Sta) (w : World) (ok : s.Ok) (c1 : ¬ (Wn.WRt s.min s.last s.counts)) : Calls Try.prog 36 #[.agg (scs s).toArray] w fun e w' => e = .returned (.bool false) ∧ Below w.heap.size w w' := by
  have OK := Lib.hid ok
  have C1 : Hid (∀ w0, Calls Try.prog 62 #[.agg (Wn.wcs s.min s.last s.counts).toArray] w0 fun e w' => e = .returned (.bool false) ∧ Below w0.heap.size w0 w') := Lib.hid (fun w0 => decide_eq_false c1 ▸ Wn.rwright_any s.min s.last s.counts w0 ok.min ok.last ok.counts)
  have kslot := ok.slot; have klen := ok.len; have knext := ok.next.len
  clear ok c1
  go_enter Try.func36, Try.ntmps36
  go_wp2_with (first
    | ((with_reducible refine at_slot 1 ?_); (refine arm_box (o := ⟨some 1, _, _, _, _, _⟩) rfl _ _ rfl (scs s) rfl ?_); intro S w1 Se hw1 nw1))
  have HR := Lib.hid hw1
  have bel1 := nw1.below
  clear hw1 Se nw1
  refine wp_region_quiet (C := fun w' => Below w1.heap.size w1 w') (by kernel_rfl) (by kernel_rfl) ((Below.refl _ _).drew) ?_
  rw [List.toList_toArray]
  refine q_value 4 rfl (.pointer (some ⟨S, 99, none⟩)) (by kernel_rfl) (fun w' _ => by kernel_rfl) ?_
  simp only [Act.put, List.setIfInBounds_toArray, List.set_cons_zero, List.set_cons_succ]
  refine q_value 5 rfl (.agg (Wn.wcs s.min s.last s.counts).toArray) (by kernel_rfl) (fun w' hC => run_op_load _ _ rfl S 99 rfl _ ((s_win OK.out).range (HR.out.old hC)) (Wn.sz_rwin OK.out.counts)) ?_
  simp only [Act.put, List.setIfInBounds_toArray, List.set_cons_zero, List.set_cons_succ]
  refine q_call 6 rfl (.bool false) 62 #[.agg (Wn.wcs s.min s.last s.counts).toArray] (by kernel_rfl) (fun w' _ => run_op_call _ _ _ rfl _ (by simp only [List.map_toArray, List.map_cons, List.map_nil]; rfl) Try.func62 (by kernel_rfl) (by kernel_rfl) w') (fun w' hC => (C1.out w').mono fun e w'' h => ⟨h.1, below_step hC hC.size h.2⟩) ?_
  simp only [Act.put, List.setIfInBounds_toArray, List.set_cons_zero, List.set_cons_succ]
  refine q_value 7 rfl (.bool true) (by kernel_rfl) (fun w' _ => by kernel_rfl) ?_
  simp only [Act.put, List.setIfInBounds_toArray, List.set_cons_zero, List.set_cons_succ]
  refine q_value 8 rfl (.bool true) (by kernel_rfl) (fun w' _ => by kernel_rfl) ?_
  simp only [Act.put, List.setIfInBounds_toArray, List.set_cons_zero, List.set_cons_succ]
  refine BigFrame.wpQuiet_skip (by kernel_rfl) ?_
  simp only [Act.put, List.setIfInBounds_toArray, List.set_cons_zero, List.set_cons_succ]
  refine BigFrame.wpQuiet_skip (by kernel_rfl) ?_
  simp only [Act.put, List.setIfInBounds_toArray, List.set_cons_zero, List.set_cons_succ]
  refine BigFrame.wpQuiet_skip (by kernel_rfl) ?_
  simp only [Act.put, List.setIfInBounds_toArray, List.set_cons_zero, List.set_cons_succ]
  refine BigFrame.wpQuiet_skip (by kernel_rfl) ?_
  simp only [Act.put, List.setIfInBounds_toArray, List.set_cons_zero, List.set_cons_succ]
  refine BigFrame.wpQuiet_skip (by kernel_rfl) ?_
  simp only [Act.put, List.setIfInBounds_toArray, List.set_cons_zero, List.set_cons_succ]
  refine BigFrame.wpQuiet_skip (by kernel_rfl) ?_
  simp only [Act.put, List.setIfInBounds_toArray, List.set_cons_zero, List.set_cons_succ]
  refine BigFrame.wpQuiet_skip (by kernel_rfl) ?_
  simp only [Act.put, List.setIfInBounds_toArray, List.set_cons_zero, List.set_cons_succ]
  refine BigFrame.wpQuiet_skip (by kernel_rfl) ?_
  simp only [Act.put, List.setIfInBounds_toArray, List.set_cons_zero, List.set_cons_succ]
  refine q_value 17 rfl (.bool true) (by kernel_rfl) (fun w' _ => by kernel_rfl) ?_
  simp only [Act.put, List.setIfInBounds_toArray, List.set_cons_zero, List.set_cons_succ]
  refine wpQuiet_nil ?_
  intro w2 hC
  have bel2 : Below w.heap.size w w2 := below_step bel1 bel1.size hC
  have HR2 := Lib.hid (HR.out.old hC)
  clear hC bel1 HR
  have HR := HR2
  go_wp2_with fail
  go_ret
  exact ⟨rfl, bel2⟩
set_option maxHeartbeats 8000000 in
set_option maxRecDepth 100000 in
theorem rr_no2 (s : Sta) (w : World) (ok : s.Ok) (c1 : Wn.WRt s.min s.last s.counts) (c2 : ¬ (s.last = s.slot / 3)) : Calls Try.prog 36 #[.agg (scs s).toArray] w fun e w' => e = .returned (.bool false) ∧ Below w.heap.size w w' := by
  have OK := Lib.hid ok
  have C1 : Hid (∀ w0, Calls Try.prog 62 #[.agg (Wn.wcs s.min s.last s.counts).toArray] w0 fun e w' => e = .returned (.bool true) ∧ Below w0.heap.size w0 w') := Lib.hid (fun w0 => decide_eq_true c1 ▸ Wn.rwright_any s.min s.last s.counts w0 ok.min ok.last ok.counts)
  have B2 : Hid (decide ((s.last : Int) = ((s.slot / 3 : Nat) : Int)) = !true) := Lib.hid (decide_eq_false (by omega))
  have kslot := ok.slot; have klen := ok.len; have knext := ok.next.len
  clear ok c1 c2
  go_enter Try.func36, Try.ntmps36
  go_wp2_with (first
    | ((with_reducible refine at_slot 1 ?_); (refine arm_box (o := ⟨some 1, _, _, _, _, _⟩) rfl _ _ rfl (scs s) rfl ?_); intro S w1 Se hw1 nw1))
  have HR := Lib.hid hw1
  have bel1 := nw1.below
  clear hw1 Se nw1
  refine wp_region_quiet (C := fun w' => Below w1.heap.size w1 w') (by kernel_rfl) (by kernel_rfl) ((Below.refl _ _).drew) ?_
  rw [List.toList_toArray]
  refine q_value 4 rfl (.pointer (some ⟨S, 99, none⟩)) (by kernel_rfl) (fun w' _ => by kernel_rfl) ?_
  simp only [Act.put, List.setIfInBounds_toArray, List.set_cons_zero, List.set_cons_succ]
  refine q_value 5 rfl (.agg (Wn.wcs s.min s.last s.counts).toArray) (by kernel_rfl) (fun w' hC => run_op_load _ _ rfl S 99 rfl _ ((s_win OK.out).range (HR.out.old hC)) (Wn.sz_rwin OK.out.counts)) ?_
  simp only [Act.put, List.setIfInBounds_toArray, List.set_cons_zero, List.set_cons_succ]
  refine q_call 6 rfl (.bool true) 62 #[.agg (Wn.wcs s.min s.last s.counts).toArray] (by kernel_rfl) (fun w' _ => run_op_call _ _ _ rfl _ (by simp only [List.map_toArray, List.map_cons, List.map_nil]; rfl) Try.func62 (by kernel_rfl) (by kernel_rfl) w') (fun w' hC => (C1.out w').mono fun e w'' h => ⟨h.1, below_step hC hC.size h.2⟩) ?_
  simp only [Act.put, List.setIfInBounds_toArray, List.set_cons_zero, List.set_cons_succ]
  refine q_value 7 rfl (.bool false) (by kernel_rfl) (fun w' _ => by kernel_rfl) ?_
  simp only [Act.put, List.setIfInBounds_toArray, List.set_cons_zero, List.set_cons_succ]
  refine q_value 8 rfl (.bool false) (by kernel_rfl) (fun w' _ => by kernel_rfl) ?_
  simp only [Act.put, List.setIfInBounds_toArray, List.set_cons_zero, List.set_cons_succ]
  refine q_value 9 rfl (.pointer (some ⟨S, 99, none⟩)) (by kernel_rfl) (fun w' _ => by kernel_rfl) ?_
  simp only [Act.put, List.setIfInBounds_toArray, List.set_cons_zero, List.set_cons_succ]
  refine q_value 10 rfl (.pointer (some ⟨S, 100, none⟩)) (by kernel_rfl) (fun w' _ => by kernel_rfl) ?_
  simp only [Act.put, List.setIfInBounds_toArray, List.set_cons_zero, List.set_cons_succ]
  refine q_value 11 rfl (.pointer (some ⟨S, 100, none⟩)) (by kernel_rfl) (fun w' _ => by kernel_rfl) ?_
  simp only [Act.put, List.setIfInBounds_toArray, List.set_cons_zero, List.set_cons_succ]
  refine q_value 12 rfl (num32 s.last) (by kernel_rfl) (fun w' hC => run_op_load1 _ _ rfl _ Try.underlying22 rfl ⟨S, 100, none⟩ rfl _ ((HR.out.old hC).cell (sc_last OK.out))) ?_
  simp only [Act.put, List.setIfInBounds_toArray, List.set_cons_zero, List.set_cons_succ]
  refine q_value 13 rfl (.pointer (some ⟨S, 96, none⟩)) (by kernel_rfl) (fun w' _ => by kernel_rfl) ?_
  simp only [Act.put, List.setIfInBounds_toArray, List.set_cons_zero, List.set_cons_succ]
  refine q_value 14 rfl (num32 s.slot) (by kernel_rfl) (fun w' hC => run_op_load1 _ _ rfl _ Try.underlying22 rfl ⟨S, 96, none⟩ rfl _ ((HR.out.old hC).cell (sc_slot OK.out))) ?_
  simp only [Act.put, List.setIfInBounds_toArray, List.set_cons_zero, List.set_cons_succ]
  refine q_call 15 rfl (num32 (s.slot / 3)) 63 #[num32 s.slot] (by kernel_rfl) (fun w' _ => run_op_call _ _ _ rfl _ (by simp only [List.map_toArray, List.map_cons, List.map_nil]; rfl) Try.func63 (by kernel_rfl) (by kernel_rfl) w') (fun w' hC => (Rg.rsubB_any s.slot w' OK.out.slot).mono fun e w'' h => ⟨h.1, below_step hC hC.size h.2⟩) ?_
  simp only [Act.put, List.setIfInBounds_toArray, List.set_cons_zero, List.set_cons_succ]
  refine q_value 16 rfl (.bool true) (by kernel_rfl) (fun w' _ => cmp_neq _ _ .u32 (by kernel_rfl) _ _ rfl .u32 (s.last : Int) ((s.slot / 3 : Nat) : Int) rfl rfl _ B2.out w') ?_
  simp only [Act.put, List.setIfInBounds_toArray, List.set_cons_zero, List.set_cons_succ]
  refine q_value 17 rfl (.bool true) (by kernel_rfl) (fun w' _ => by kernel_rfl) ?_
  simp only [Act.put, List.setIfInBounds_toArray, List.set_cons_zero, List.set_cons_succ]
  refine wpQuiet_nil ?_
  intro w2 hC
  have bel2 : Below w.heap.size w w2 := below_step bel1 bel1.size hC
  have HR2 := Lib.hid (HR.out.old hC)
  clear hC bel1 HR
  have HR := HR2
  go_wp2_with fail
  go_ret
  exact ⟨rfl, bel2⟩
set_option maxHeartbeats 8000000 in
set_option maxRecDepth 100000 in
theorem rr_no3 (s : Sta) (w : World) (ok : s.Ok) (c1 : Wn.WRt s.min s.last s.counts) (c2 : s.last = s.slot / 3) (c3 : ¬ (1 ≤ s.len)) : Calls Try.prog 36 #[.agg (scs s).toArray] w fun e w' => e = .returned (.bool false) ∧ Below w.heap.size w w' := by
  have OK := Lib.hid ok
  have C1 : Hid (∀ w0, Calls Try.prog 62 #[.agg (Wn.wcs s.min s.last s.counts).toArray] w0 fun e w' => e = .returned (.bool true) ∧ Below w0.heap.size w0 w') := Lib.hid (fun w0 => decide_eq_true c1 ▸ Wn.rwright_any s.min s.last s.counts w0 ok.min ok.last ok.counts)
  have B2 : Hid (decide ((s.last : Int) = ((s.slot / 3 : Nat) : Int)) = !false) := Lib.hid (decide_eq_true (by omega))
  have b3 : decide ((s.len : Int) < 1) = true := decide_eq_true (by omega)
  have kslot := ok.slot; have klen := ok.len; have knext := ok.next.len
  clear ok c1 c2 c3
  go_enter Try.func36, Try.ntmps36
  go_wp2_with (first
    | ((with_reducible refine at_slot 1 ?_); (refine arm_box (o := ⟨some 1, _, _, _, _, _⟩) rfl _ _ rfl (scs s) rfl ?_); intro S w1 Se hw1 nw1))
  have HR := Lib.hid hw1
  have bel1 := nw1.below
  clear hw1 Se nw1
  refine wp_region_quiet (C := fun w' => Below w1.heap.size w1 w') (by kernel_rfl) (by kernel_rfl) ((Below.refl _ _).drew) ?_
  rw [List.toList_toArray]
  refine q_value 4 rfl (.pointer (some ⟨S, 99, none⟩)) (by kernel_rfl) (fun w' _ => by kernel_rfl) ?_
  simp only [Act.put, List.setIfInBounds_toArray, List.set_cons_zero, List.set_cons_succ]
  refine q_value 5 rfl (.agg (Wn.wcs s.min s.last s.counts).toArray) (by kernel_rfl) (fun w' hC => run_op_load _ _ rfl S 99 rfl _ ((s_win OK.out).range (HR.out.old hC)) (Wn.sz_rwin OK.out.counts)) ?_
  simp only [Act.put, List.setIfInBounds_toArray, List.set_cons_zero, List.set_cons_succ]
  refine q_call 6 rfl (.bool true) 62 #[.agg (Wn.wcs s.min s.last s.counts).toArray] (by kernel_rfl) (fun w' _ => run_op_call _ _ _ rfl _ (by simp only [List.map_toArray, List.map_cons, List.map_nil]; rfl) Try.func62 (by kernel_rfl) (by kernel_rfl) w') (fun w' hC => (C1.out w').mono fun e w'' h => ⟨h.1, below_step hC hC.size h.2⟩) ?_
  simp only [Act.put, List.setIfInBounds_toArray, List.set_cons_zero, List.set_cons_succ]
  refine q_value 7 rfl (.bool false) (by kernel_rfl) (fun w' _ => by kernel_rfl) ?_
  simp only [Act.put, List.setIfInBounds_toArray, List.set_cons_zero, List.set_cons_succ]
  refine q_value 8 rfl (.bool false) (by kernel_rfl) (fun w' _ => by kernel_rfl) ?_
  simp only [Act.put, List.setIfInBounds_toArray, List.set_cons_zero, List.set_cons_succ]
  refine q_value 9 rfl (.pointer (some ⟨S, 99, none⟩)) (by kernel_rfl) (fun w' _ => by kernel_rfl) ?_
  simp only [Act.put, List.setIfInBounds_toArray, List.set_cons_zero, List.set_cons_succ]
  refine q_value 10 rfl (.pointer (some ⟨S, 100, none⟩)) (by kernel_rfl) (fun w' _ => by kernel_rfl) ?_
  simp only [Act.put, List.setIfInBounds_toArray, List.set_cons_zero, List.set_cons_succ]
  refine q_value 11 rfl (.pointer (some ⟨S, 100, none⟩)) (by kernel_rfl) (fun w' _ => by kernel_rfl) ?_
  simp only [Act.put, List.setIfInBounds_toArray, List.set_cons_zero, List.set_cons_succ]
  refine q_value 12 rfl (num32 s.last) (by kernel_rfl) (fun w' hC => run_op_load1 _ _ rfl _ Try.underlying22 rfl ⟨S, 100, none⟩ rfl _ ((HR.out.old hC).cell (sc_last OK.out))) ?_
  simp only [Act.put, List.setIfInBounds_toArray, List.set_cons_zero, List.set_cons_succ]
  refine q_value 13 rfl (.pointer (some ⟨S, 96, none⟩)) (by kernel_rfl) (fun w' _ => by kernel_rfl) ?_
  simp only [Act.put, List.setIfInBounds_toArray, List.set_cons_zero, List.set_cons_succ]
  refine q_value 14 rfl (num32 s.slot) (by kernel_rfl) (fun w' hC => run_op_load1 _ _ rfl _ Try.underlying22 rfl ⟨S, 96, none⟩ rfl _ ((HR.out.old hC).cell (sc_slot OK.out))) ?_
  simp only [Act.put, List.setIfInBounds_toArray, List.set_cons_zero, List.set_cons_succ]
  refine q_call 15 rfl (num32 (s.slot / 3)) 63 #[num32 s.slot] (by kernel_rfl) (fun w' _ => run_op_call _ _ _ rfl _ (by simp only [List.map_toArray, List.map_cons, List.map_nil]; rfl) Try.func63 (by kernel_rfl) (by kernel_rfl) w') (fun w' hC => (Rg.rsubB_any s.slot w' OK.out.slot).mono fun e w'' h => ⟨h.1, below_step hC hC.size h.2⟩) ?_
  simp only [Act.put, List.setIfInBounds_toArray, List.set_cons_zero, List.set_cons_succ]
  refine q_value 16 rfl (.bool false) (by kernel_rfl) (fun w' _ => cmp_neq _ _ .u32 (by kernel_rfl) _ _ rfl .u32 (s.last : Int) ((s.slot / 3 : Nat) : Int) rfl rfl _ B2.out w') ?_
  simp only [Act.put, List.setIfInBounds_toArray, List.set_cons_zero, List.set_cons_succ]
  refine q_value 17 rfl (.bool false) (by kernel_rfl) (fun w' _ => by kernel_rfl) ?_
  simp only [Act.put, List.setIfInBounds_toArray, List.set_cons_zero, List.set_cons_succ]
  refine wpQuiet_nil ?_
  intro w2 hC
  have bel2 : Below w.heap.size w w2 := below_step bel1 bel1.size hC
  have HR2 := Lib.hid (HR.out.old hC)
  clear hC bel1 HR
  have HR := HR2
  have x97 : w2.cell? ⟨S, 97, none⟩ = some (.int .u32 (s.len : Int)) := HR.out.cell (sc_len OK.out)
  have x96 : w2.cell? ⟨S, 96, none⟩ = some (.int .u32 (s.slot : Int)) := HR.out.cell (sc_slot OK.out)
  have x362 : w2.cell? ⟨S, 362, none⟩ = some (.int .u32 (s.next.len : Int)) := HR.out.cell (sc_next OK.out)
  go_wp2_with fail
  go_ret
  exact ⟨rfl, bel2⟩
set_option maxHeartbeats 8000000 in
set_option maxRecDepth 100000 in
theorem rr_no4 (s : Sta) (w : World) (ok : s.Ok) (c1 : Wn.WRt s.min s.last s.counts) (c2 : s.last = s.slot / 3) (c3 : 1 ≤ s.len) (c4 : ¬ (s.len ≤ s.slot + 1)) : Calls Try.prog 36 #[.agg (scs s).toArray] w fun e w' => e = .returned (.bool false) ∧ Below w.heap.size w w' := by
  have OK := Lib.hid ok
  have C1 : Hid (∀ w0, Calls Try.prog 62 #[.agg (Wn.wcs s.min s.last s.counts).toArray] w0 fun e w' => e = .returned (.bool true) ∧ Below w0.heap.size w0 w') := Lib.hid (fun w0 => decide_eq_true c1 ▸ Wn.rwright_any s.min s.last s.counts w0 ok.min ok.last ok.counts)
  have B2 : Hid (decide ((s.last : Int) = ((s.slot / 3 : Nat) : Int)) = !false) := Lib.hid (decide_eq_true (by omega))
  have b3 : decide ((s.len : Int) < 1) = false := decide_eq_false (by omega)
  have b4 : decide ((s.slot : Int) + 1 < (s.len : Int)) = true := decide_eq_true (by omega)
  have kslot := ok.slot; have klen := ok.len; have knext := ok.next.len
  clear ok c1 c2 c3 c4
  go_enter Try.func36, Try.ntmps36
  go_wp2_with (first
    | ((with_reducible refine at_slot 1 ?_); (refine arm_box (o := ⟨some 1, _, _, _, _, _⟩) rfl _ _ rfl (scs s) rfl ?_); intro S w1 Se hw1 nw1))
  have HR := Lib.hid hw1
  have bel1 := nw1.below
  clear hw1 Se nw1
  refine wp_region_quiet (C := fun w' => Below w1.heap.size w1 w') (by kernel_rfl) (by kernel_rfl) ((Below.refl _ _).drew) ?_
  rw [List.toList_toArray]
  refine q_value 4 rfl (.pointer (some ⟨S, 99, none⟩)) (by kernel_rfl) (fun w' _ => by kernel_rfl) ?_
  simp only [Act.put, List.setIfInBounds_toArray, List.set_cons_zero, List.set_cons_succ]
  refine q_value 5 rfl (.agg (Wn.wcs s.min s.last s.counts).toArray) (by kernel_rfl) (fun w' hC => run_op_load _ _ rfl S 99 rfl _ ((s_win OK.out).range (HR.out.old hC)) (Wn.sz_rwin OK.out.counts)) ?_
  simp only [Act.put, List.setIfInBounds_toArray, List.set_cons_zero, List.set_cons_succ]
  refine q_call 6 rfl (.bool true) 62 #[.agg (Wn.wcs s.min s.last s.counts).toArray] (by kernel_rfl) (fun w' _ => run_op_call _ _ _ rfl _ (by simp only [List.map_toArray, List.map_cons, List.map_nil]; rfl) Try.func62 (by kernel_rfl) (by kernel_rfl) w') (fun w' hC => (C1.out w').mono fun e w'' h => ⟨h.1, below_step hC hC.size h.2⟩) ?_
  simp only [Act.put, List.setIfInBounds_toArray, List.set_cons_zero, List.set_cons_succ]
  refine q_value 7 rfl (.bool false) (by kernel_rfl) (fun w' _ => by kernel_rfl) ?_
  simp only [Act.put, List.setIfInBounds_toArray, List.set_cons_zero, List.set_cons_succ]
  refine q_value 8 rfl (.bool false) (by kernel_rfl) (fun w' _ => by kernel_rfl) ?_
  simp only [Act.put, List.setIfInBounds_toArray, List.set_cons_zero, List.set_cons_succ]
  refine q_value 9 rfl (.pointer (some ⟨S, 99, none⟩)) (by kernel_rfl) (fun w' _ => by kernel_rfl) ?_
  simp only [Act.put, List.setIfInBounds_toArray, List.set_cons_zero, List.set_cons_succ]
  refine q_value 10 rfl (.pointer (some ⟨S, 100, none⟩)) (by kernel_rfl) (fun w' _ => by kernel_rfl) ?_
  simp only [Act.put, List.setIfInBounds_toArray, List.set_cons_zero, List.set_cons_succ]
  refine q_value 11 rfl (.pointer (some ⟨S, 100, none⟩)) (by kernel_rfl) (fun w' _ => by kernel_rfl) ?_
  simp only [Act.put, List.setIfInBounds_toArray, List.set_cons_zero, List.set_cons_succ]
  refine q_value 12 rfl (num32 s.last) (by kernel_rfl) (fun w' hC => run_op_load1 _ _ rfl _ Try.underlying22 rfl ⟨S, 100, none⟩ rfl _ ((HR.out.old hC).cell (sc_last OK.out))) ?_
  simp only [Act.put, List.setIfInBounds_toArray, List.set_cons_zero, List.set_cons_succ]
  refine q_value 13 rfl (.pointer (some ⟨S, 96, none⟩)) (by kernel_rfl) (fun w' _ => by kernel_rfl) ?_
  simp only [Act.put, List.setIfInBounds_toArray, List.set_cons_zero, List.set_cons_succ]
  refine q_value 14 rfl (num32 s.slot) (by kernel_rfl) (fun w' hC => run_op_load1 _ _ rfl _ Try.underlying22 rfl ⟨S, 96, none⟩ rfl _ ((HR.out.old hC).cell (sc_slot OK.out))) ?_
  simp only [Act.put, List.setIfInBounds_toArray, List.set_cons_zero, List.set_cons_succ]
  refine q_call 15 rfl (num32 (s.slot / 3)) 63 #[num32 s.slot] (by kernel_rfl) (fun w' _ => run_op_call _ _ _ rfl _ (by simp only [List.map_toArray, List.map_cons, List.map_nil]; rfl) Try.func63 (by kernel_rfl) (by kernel_rfl) w') (fun w' hC => (Rg.rsubB_any s.slot w' OK.out.slot).mono fun e w'' h => ⟨h.1, below_step hC hC.size h.2⟩) ?_
  simp only [Act.put, List.setIfInBounds_toArray, List.set_cons_zero, List.set_cons_succ]
  refine q_value 16 rfl (.bool false) (by kernel_rfl) (fun w' _ => cmp_neq _ _ .u32 (by kernel_rfl) _ _ rfl .u32 (s.last : Int) ((s.slot / 3 : Nat) : Int) rfl rfl _ B2.out w') ?_
  simp only [Act.put, List.setIfInBounds_toArray, List.set_cons_zero, List.set_cons_succ]
  refine q_value 17 rfl (.bool false) (by kernel_rfl) (fun w' _ => by kernel_rfl) ?_
  simp only [Act.put, List.setIfInBounds_toArray, List.set_cons_zero, List.set_cons_succ]
  refine wpQuiet_nil ?_
  intro w2 hC
  have bel2 : Below w.heap.size w w2 := below_step bel1 bel1.size hC
  have HR2 := Lib.hid (HR.out.old hC)
  clear hC bel1 HR
  have HR := HR2
  have x97 : w2.cell? ⟨S, 97, none⟩ = some (.int .u32 (s.len : Int)) := HR.out.cell (sc_len OK.out)
  have x96 : w2.cell? ⟨S, 96, none⟩ = some (.int .u32 (s.slot : Int)) := HR.out.cell (sc_slot OK.out)
  have x362 : w2.cell? ⟨S, 362, none⟩ = some (.int .u32 (s.next.len : Int)) := HR.out.cell (sc_next OK.out)
  go_wp2_with fail
  go_ret
  exact ⟨rfl, bel2⟩
set_option maxHeartbeats 8000000 in
set_option maxRecDepth 100000 in
theorem rr_no5 (s : Sta) (w : World) (ok : s.Ok) (c1 : Wn.WRt s.min s.last s.counts) (c2 : s.last = s.slot / 3) (c3 : 1 ≤ s.len) (c4 : s.len ≤ s.slot + 1) (c5 : ¬ (s.count ≤ s.slot / 24)) : Calls Try.prog 36 #[.agg (scs s).toArray] w fun e w' => e = .returned (.bool false) ∧ Below w.heap.size w w' := by
  have OK := Lib.hid ok
  have C1 : Hid (∀ w0, Calls Try.prog 62 #[.agg (Wn.wcs s.min s.last s.counts).toArray] w0 fun e w' => e = .returned (.bool true) ∧ Below w0.heap.size w0 w') := Lib.hid (fun w0 => decide_eq_true c1 ▸ Wn.rwright_any s.min s.last s.counts w0 ok.min ok.last ok.counts)
  have B2 : Hid (decide ((s.last : Int) = ((s.slot / 3 : Nat) : Int)) = !false) := Lib.hid (decide_eq_true (by omega))
  have b3 : decide ((s.len : Int) < 1) = false := decide_eq_false (by omega)
  have b4 : decide ((s.slot : Int) + 1 < (s.len : Int)) = false := decide_eq_false (by omega)
  have B4 : Hid (decide (((s.slot / 24 : Nat) : Int) < (s.count : Int)) = true) := Lib.hid (decide_eq_true (by omega))
  have kslot := ok.slot; have klen := ok.len; have knext := ok.next.len
  clear ok c1 c2 c3 c4 c5
  go_enter Try.func36, Try.ntmps36
  go_wp2_with (first
    | ((with_reducible refine at_slot 1 ?_); (refine arm_box (o := ⟨some 1, _, _, _, _, _⟩) rfl _ _ rfl (scs s) rfl ?_); intro S w1 Se hw1 nw1))
  have HR := Lib.hid hw1
  have bel1 := nw1.below
  clear hw1 Se nw1
  refine wp_region_quiet (C := fun w' => Below w1.heap.size w1 w') (by kernel_rfl) (by kernel_rfl) ((Below.refl _ _).drew) ?_
  rw [List.toList_toArray]
  refine q_value 4 rfl (.pointer (some ⟨S, 99, none⟩)) (by kernel_rfl) (fun w' _ => by kernel_rfl) ?_
  simp only [Act.put, List.setIfInBounds_toArray, List.set_cons_zero, List.set_cons_succ]
  refine q_value 5 rfl (.agg (Wn.wcs s.min s.last s.counts).toArray) (by kernel_rfl) (fun w' hC => run_op_load _ _ rfl S 99 rfl _ ((s_win OK.out).range (HR.out.old hC)) (Wn.sz_rwin OK.out.counts)) ?_
  simp only [Act.put, List.setIfInBounds_toArray, List.set_cons_zero, List.set_cons_succ]
  refine q_call 6 rfl (.bool true) 62 #[.agg (Wn.wcs s.min s.last s.counts).toArray] (by kernel_rfl) (fun w' _ => run_op_call _ _ _ rfl _ (by simp only [List.map_toArray, List.map_cons, List.map_nil]; rfl) Try.func62 (by kernel_rfl) (by kernel_rfl) w') (fun w' hC => (C1.out w').mono fun e w'' h => ⟨h.1, below_step hC hC.size h.2⟩) ?_
  simp only [Act.put, List.setIfInBounds_toArray, List.set_cons_zero, List.set_cons_succ]
  refine q_value 7 rfl (.bool false) (by kernel_rfl) (fun w' _ => by kernel_rfl) ?_
  simp only [Act.put, List.setIfInBounds_toArray, List.set_cons_zero, List.set_cons_succ]
  refine q_value 8 rfl (.bool false) (by kernel_rfl) (fun w' _ => by kernel_rfl) ?_
  simp only [Act.put, List.setIfInBounds_toArray, List.set_cons_zero, List.set_cons_succ]
  refine q_value 9 rfl (.pointer (some ⟨S, 99, none⟩)) (by kernel_rfl) (fun w' _ => by kernel_rfl) ?_
  simp only [Act.put, List.setIfInBounds_toArray, List.set_cons_zero, List.set_cons_succ]
  refine q_value 10 rfl (.pointer (some ⟨S, 100, none⟩)) (by kernel_rfl) (fun w' _ => by kernel_rfl) ?_
  simp only [Act.put, List.setIfInBounds_toArray, List.set_cons_zero, List.set_cons_succ]
  refine q_value 11 rfl (.pointer (some ⟨S, 100, none⟩)) (by kernel_rfl) (fun w' _ => by kernel_rfl) ?_
  simp only [Act.put, List.setIfInBounds_toArray, List.set_cons_zero, List.set_cons_succ]
  refine q_value 12 rfl (num32 s.last) (by kernel_rfl) (fun w' hC => run_op_load1 _ _ rfl _ Try.underlying22 rfl ⟨S, 100, none⟩ rfl _ ((HR.out.old hC).cell (sc_last OK.out))) ?_
  simp only [Act.put, List.setIfInBounds_toArray, List.set_cons_zero, List.set_cons_succ]
  refine q_value 13 rfl (.pointer (some ⟨S, 96, none⟩)) (by kernel_rfl) (fun w' _ => by kernel_rfl) ?_
  simp only [Act.put, List.setIfInBounds_toArray, List.set_cons_zero, List.set_cons_succ]
  refine q_value 14 rfl (num32 s.slot) (by kernel_rfl) (fun w' hC => run_op_load1 _ _ rfl _ Try.underlying22 rfl ⟨S, 96, none⟩ rfl _ ((HR.out.old hC).cell (sc_slot OK.out))) ?_
  simp only [Act.put, List.setIfInBounds_toArray, List.set_cons_zero, List.set_cons_succ]
  refine q_call 15 rfl (num32 (s.slot / 3)) 63 #[num32 s.slot] (by kernel_rfl) (fun w' _ => run_op_call _ _ _ rfl _ (by simp only [List.map_toArray, List.map_cons, List.map_nil]; rfl) Try.func63 (by kernel_rfl) (by kernel_rfl) w') (fun w' hC => (Rg.rsubB_any s.slot w' OK.out.slot).mono fun e w'' h => ⟨h.1, below_step hC hC.size h.2⟩) ?_
  simp only [Act.put, List.setIfInBounds_toArray, List.set_cons_zero, List.set_cons_succ]
  refine q_value 16 rfl (.bool false) (by kernel_rfl) (fun w' _ => cmp_neq _ _ .u32 (by kernel_rfl) _ _ rfl .u32 (s.last : Int) ((s.slot / 3 : Nat) : Int) rfl rfl _ B2.out w') ?_
  simp only [Act.put, List.setIfInBounds_toArray, List.set_cons_zero, List.set_cons_succ]
  refine q_value 17 rfl (.bool false) (by kernel_rfl) (fun w' _ => by kernel_rfl) ?_
  simp only [Act.put, List.setIfInBounds_toArray, List.set_cons_zero, List.set_cons_succ]
  refine wpQuiet_nil ?_
  intro w2 hC
  have bel2 : Below w.heap.size w w2 := below_step bel1 bel1.size hC
  have HR2 := Lib.hid (HR.out.old hC)
  clear hC bel1 HR
  have HR := HR2
  have x97 : w2.cell? ⟨S, 97, none⟩ = some (.int .u32 (s.len : Int)) := HR.out.cell (sc_len OK.out)
  have x96 : w2.cell? ⟨S, 96, none⟩ = some (.int .u32 (s.slot : Int)) := HR.out.cell (sc_slot OK.out)
  have x362 : w2.cell? ⟨S, 362, none⟩ = some (.int .u32 (s.next.len : Int)) := HR.out.cell (sc_next OK.out)
  go_wp2_with fail
  clear x97 x96 x362 b3 b4
  refine wp_region_quiet (C := fun w' => Below w2.heap.size w2 w') (by kernel_rfl) (by kernel_rfl) ((Below.refl _ _).drew) ?_
  rw [List.toList_toArray]
  refine q_value 31 rfl (.pointer (some ⟨S, 98, none⟩)) (by kernel_rfl) (fun w' _ => by kernel_rfl) ?_
  simp only [Act.put, List.setIfInBounds_toArray, List.set_cons_zero, List.set_cons_succ]
  refine q_value 32 rfl (num32 s.count) (by kernel_rfl) (fun w' hC => run_op_load1 _ _ rfl _ Try.underlying22 rfl ⟨S, 98, none⟩ rfl _ ((HR.out.old hC).cell (sc_count OK.out))) ?_
  simp only [Act.put, List.setIfInBounds_toArray, List.set_cons_zero, List.set_cons_succ]
  refine q_value 33 rfl (.pointer (some ⟨S, 96, none⟩)) (by kernel_rfl) (fun w' _ => by kernel_rfl) ?_
  simp only [Act.put, List.setIfInBounds_toArray, List.set_cons_zero, List.set_cons_succ]
  refine q_value 34 rfl (num32 s.slot) (by kernel_rfl) (fun w' hC => run_op_load1 _ _ rfl _ Try.underlying22 rfl ⟨S, 96, none⟩ rfl _ ((HR.out.old hC).cell (sc_slot OK.out))) ?_
  simp only [Act.put, List.setIfInBounds_toArray, List.set_cons_zero, List.set_cons_succ]
  refine q_call 35 rfl (num32 (s.slot / 24)) 64 #[num32 s.slot] (by kernel_rfl) (fun w' _ => run_op_call _ _ _ rfl _ (by simp only [List.map_toArray, List.map_cons, List.map_nil]; rfl) Try.func64 (by kernel_rfl) (by kernel_rfl) w') (fun w' hC => (Slot.repoch_nat s.slot w' OK.out.slot).mono fun e w'' h => ⟨h.1, h.2 ▸ hC⟩) ?_
  simp only [Act.put, List.setIfInBounds_toArray, List.set_cons_zero, List.set_cons_succ]
  refine q_value 36 rfl (.bool true) (by kernel_rfl) (fun w' _ => cmp_gtr _ _ _ _ rfl .u32 (s.count : Int) ((s.slot / 24 : Nat) : Int) rfl rfl _ B4.out w') ?_
  simp only [Act.put, List.setIfInBounds_toArray, List.set_cons_zero, List.set_cons_succ]
  refine q_value 37 rfl (.bool true) (by kernel_rfl) (fun w' _ => by kernel_rfl) ?_
  simp only [Act.put, List.setIfInBounds_toArray, List.set_cons_zero, List.set_cons_succ]
  refine BigFrame.wpQuiet_skip (by kernel_rfl) ?_
  simp only [Act.put, List.setIfInBounds_toArray, List.set_cons_zero, List.set_cons_succ]
  refine BigFrame.wpQuiet_skip (by kernel_rfl) ?_
  simp only [Act.put, List.setIfInBounds_toArray, List.set_cons_zero, List.set_cons_succ]
  refine BigFrame.wpQuiet_skip (by kernel_rfl) ?_
  simp only [Act.put, List.setIfInBounds_toArray, List.set_cons_zero, List.set_cons_succ]
  refine BigFrame.wpQuiet_skip (by kernel_rfl) ?_
  simp only [Act.put, List.setIfInBounds_toArray, List.set_cons_zero, List.set_cons_succ]
  refine BigFrame.wpQuiet_skip (by kernel_rfl) ?_
  simp only [Act.put, List.setIfInBounds_toArray, List.set_cons_zero, List.set_cons_succ]
  refine q_value 43 rfl (.bool true) (by kernel_rfl) (fun w' _ => by kernel_rfl) ?_
  simp only [Act.put, List.setIfInBounds_toArray, List.set_cons_zero, List.set_cons_succ]
  refine wpQuiet_nil ?_
  intro w3 hC
  have bel3 : Below w.heap.size w w3 := below_step bel2 bel2.size hC
  have HR3 := Lib.hid (HR.out.old hC)
  clear hC bel2 HR HR2
  have HR := HR3
  go_wp2_with fail
  go_ret
  exact ⟨rfl, bel3⟩
set_option maxHeartbeats 8000000 in
set_option maxRecDepth 100000 in
theorem rr_no6 (s : Sta) (w : World) (ok : s.Ok) (c1 : Wn.WRt s.min s.last s.counts) (c2 : s.last = s.slot / 3) (c3 : 1 ≤ s.len) (c4 : s.len ≤ s.slot + 1) (c5 : s.count ≤ s.slot / 24) (c6 : ¬ (s.count < s.len)) : Calls Try.prog 36 #[.agg (scs s).toArray] w fun e w' => e = .returned (.bool false) ∧ Below w.heap.size w w' := by
  have OK := Lib.hid ok
  have C1 : Hid (∀ w0, Calls Try.prog 62 #[.agg (Wn.wcs s.min s.last s.counts).toArray] w0 fun e w' => e = .returned (.bool true) ∧ Below w0.heap.size w0 w') := Lib.hid (fun w0 => decide_eq_true c1 ▸ Wn.rwright_any s.min s.last s.counts w0 ok.min ok.last ok.counts)
  have B2 : Hid (decide ((s.last : Int) = ((s.slot / 3 : Nat) : Int)) = !false) := Lib.hid (decide_eq_true (by omega))
  have b3 : decide ((s.len : Int) < 1) = false := decide_eq_false (by omega)
  have b4 : decide ((s.slot : Int) + 1 < (s.len : Int)) = false := decide_eq_false (by omega)
  have B4 : Hid (decide (((s.slot / 24 : Nat) : Int) < (s.count : Int)) = false) := Lib.hid (decide_eq_false (by omega))
  have B5 : Hid (decide ((s.len : Int) ≤ (s.count : Int)) = true) := Lib.hid (decide_eq_true (by omega))
  have kslot := ok.slot; have klen := ok.len; have knext := ok.next.len
  clear ok c1 c2 c3 c4 c5 c6
  go_enter Try.func36, Try.ntmps36
  go_wp2_with (first
    | ((with_reducible refine at_slot 1 ?_); (refine arm_box (o := ⟨some 1, _, _, _, _, _⟩) rfl _ _ rfl (scs s) rfl ?_); intro S w1 Se hw1 nw1))
  have HR := Lib.hid hw1
  have bel1 := nw1.below
  clear hw1 Se nw1
  refine wp_region_quiet (C := fun w' => Below w1.heap.size w1 w') (by kernel_rfl) (by kernel_rfl) ((Below.refl _ _).drew) ?_
  rw [List.toList_toArray]
  refine q_value 4 rfl (.pointer (some ⟨S, 99, none⟩)) (by kernel_rfl) (fun w' _ => by kernel_rfl) ?_
  simp only [Act.put, List.setIfInBounds_toArray, List.set_cons_zero, List.set_cons_succ]
  refine q_value 5 rfl (.agg (Wn.wcs s.min s.last s.counts).toArray) (by kernel_rfl) (fun w' hC => run_op_load _ _ rfl S 99 rfl _ ((s_win OK.out).range (HR.out.old hC)) (Wn.sz_rwin OK.out.counts)) ?_
  simp only [Act.put, List.setIfInBounds_toArray, List.set_cons_zero, List.set_cons_succ]
  refine q_call 6 rfl (.bool true) 62 #[.agg (Wn.wcs s.min s.last s.counts).toArray] (by kernel_rfl) (fun w' _ => run_op_call _ _ _ rfl _ (by simp only [List.map_toArray, List.map_cons, List.map_nil]; rfl) Try.func62 (by kernel_rfl) (by kernel_rfl) w') (fun w' hC => (C1.out w').mono fun e w'' h => ⟨h.1, below_step hC hC.size h.2⟩) ?_
  simp only [Act.put, List.setIfInBounds_toArray, List.set_cons_zero, List.set_cons_succ]
  refine q_value 7 rfl (.bool false) (by kernel_rfl) (fun w' _ => by kernel_rfl) ?_
  simp only [Act.put, List.setIfInBounds_toArray, List.set_cons_zero, List.set_cons_succ]
  refine q_value 8 rfl (.bool false) (by kernel_rfl) (fun w' _ => by kernel_rfl) ?_
  simp only [Act.put, List.setIfInBounds_toArray, List.set_cons_zero, List.set_cons_succ]
  refine q_value 9 rfl (.pointer (some ⟨S, 99, none⟩)) (by kernel_rfl) (fun w' _ => by kernel_rfl) ?_
  simp only [Act.put, List.setIfInBounds_toArray, List.set_cons_zero, List.set_cons_succ]
  refine q_value 10 rfl (.pointer (some ⟨S, 100, none⟩)) (by kernel_rfl) (fun w' _ => by kernel_rfl) ?_
  simp only [Act.put, List.setIfInBounds_toArray, List.set_cons_zero, List.set_cons_succ]
  refine q_value 11 rfl (.pointer (some ⟨S, 100, none⟩)) (by kernel_rfl) (fun w' _ => by kernel_rfl) ?_
  simp only [Act.put, List.setIfInBounds_toArray, List.set_cons_zero, List.set_cons_succ]
  refine q_value 12 rfl (num32 s.last) (by kernel_rfl) (fun w' hC => run_op_load1 _ _ rfl _ Try.underlying22 rfl ⟨S, 100, none⟩ rfl _ ((HR.out.old hC).cell (sc_last OK.out))) ?_
  simp only [Act.put, List.setIfInBounds_toArray, List.set_cons_zero, List.set_cons_succ]
  refine q_value 13 rfl (.pointer (some ⟨S, 96, none⟩)) (by kernel_rfl) (fun w' _ => by kernel_rfl) ?_
  simp only [Act.put, List.setIfInBounds_toArray, List.set_cons_zero, List.set_cons_succ]
  refine q_value 14 rfl (num32 s.slot) (by kernel_rfl) (fun w' hC => run_op_load1 _ _ rfl _ Try.underlying22 rfl ⟨S, 96, none⟩ rfl _ ((HR.out.old hC).cell (sc_slot OK.out))) ?_
  simp only [Act.put, List.setIfInBounds_toArray, List.set_cons_zero, List.set_cons_succ]
  refine q_call 15 rfl (num32 (s.slot / 3)) 63 #[num32 s.slot] (by kernel_rfl) (fun w' _ => run_op_call _ _ _ rfl _ (by simp only [List.map_toArray, List.map_cons, List.map_nil]; rfl) Try.func63 (by kernel_rfl) (by kernel_rfl) w') (fun w' hC => (Rg.rsubB_any s.slot w' OK.out.slot).mono fun e w'' h => ⟨h.1, below_step hC hC.size h.2⟩) ?_
  simp only [Act.put, List.setIfInBounds_toArray, List.set_cons_zero, List.set_cons_succ]
  refine q_value 16 rfl (.bool false) (by kernel_rfl) (fun w' _ => cmp_neq _ _ .u32 (by kernel_rfl) _ _ rfl .u32 (s.last : Int) ((s.slot / 3 : Nat) : Int) rfl rfl _ B2.out w') ?_
  simp only [Act.put, List.setIfInBounds_toArray, List.set_cons_zero, List.set_cons_succ]
  refine q_value 17 rfl (.bool false) (by kernel_rfl) (fun w' _ => by kernel_rfl) ?_
  simp only [Act.put, List.setIfInBounds_toArray, List.set_cons_zero, List.set_cons_succ]
  refine wpQuiet_nil ?_
  intro w2 hC
  have bel2 : Below w.heap.size w w2 := below_step bel1 bel1.size hC
  have HR2 := Lib.hid (HR.out.old hC)
  clear hC bel1 HR
  have HR := HR2
  have x97 : w2.cell? ⟨S, 97, none⟩ = some (.int .u32 (s.len : Int)) := HR.out.cell (sc_len OK.out)
  have x96 : w2.cell? ⟨S, 96, none⟩ = some (.int .u32 (s.slot : Int)) := HR.out.cell (sc_slot OK.out)
  have x362 : w2.cell? ⟨S, 362, none⟩ = some (.int .u32 (s.next.len : Int)) := HR.out.cell (sc_next OK.out)
  go_wp2_with fail
  clear x97 x96 x362 b3 b4
  refine wp_region_quiet (C := fun w' => Below w2.heap.size w2 w') (by kernel_rfl) (by kernel_rfl) ((Below.refl _ _).drew) ?_
  rw [List.toList_toArray]
  refine q_value 31 rfl (.pointer (some ⟨S, 98, none⟩)) (by kernel_rfl) (fun w' _ => by kernel_rfl) ?_
  simp only [Act.put, List.setIfInBounds_toArray, List.set_cons_zero, List.set_cons_succ]
  refine q_value 32 rfl (num32 s.count) (by kernel_rfl) (fun w' hC => run_op_load1 _ _ rfl _ Try.underlying22 rfl ⟨S, 98, none⟩ rfl _ ((HR.out.old hC).cell (sc_count OK.out))) ?_
  simp only [Act.put, List.setIfInBounds_toArray, List.set_cons_zero, List.set_cons_succ]
  refine q_value 33 rfl (.pointer (some ⟨S, 96, none⟩)) (by kernel_rfl) (fun w' _ => by kernel_rfl) ?_
  simp only [Act.put, List.setIfInBounds_toArray, List.set_cons_zero, List.set_cons_succ]
  refine q_value 34 rfl (num32 s.slot) (by kernel_rfl) (fun w' hC => run_op_load1 _ _ rfl _ Try.underlying22 rfl ⟨S, 96, none⟩ rfl _ ((HR.out.old hC).cell (sc_slot OK.out))) ?_
  simp only [Act.put, List.setIfInBounds_toArray, List.set_cons_zero, List.set_cons_succ]
  refine q_call 35 rfl (num32 (s.slot / 24)) 64 #[num32 s.slot] (by kernel_rfl) (fun w' _ => run_op_call _ _ _ rfl _ (by simp only [List.map_toArray, List.map_cons, List.map_nil]; rfl) Try.func64 (by kernel_rfl) (by kernel_rfl) w') (fun w' hC => (Slot.repoch_nat s.slot w' OK.out.slot).mono fun e w'' h => ⟨h.1, h.2 ▸ hC⟩) ?_
  simp only [Act.put, List.setIfInBounds_toArray, List.set_cons_zero, List.set_cons_succ]
  refine q_value 36 rfl (.bool false) (by kernel_rfl) (fun w' _ => cmp_gtr _ _ _ _ rfl .u32 (s.count : Int) ((s.slot / 24 : Nat) : Int) rfl rfl _ B4.out w') ?_
  simp only [Act.put, List.setIfInBounds_toArray, List.set_cons_zero, List.set_cons_succ]
  refine q_value 37 rfl (.bool false) (by kernel_rfl) (fun w' _ => by kernel_rfl) ?_
  simp only [Act.put, List.setIfInBounds_toArray, List.set_cons_zero, List.set_cons_succ]
  refine q_value 38 rfl (.pointer (some ⟨S, 98, none⟩)) (by kernel_rfl) (fun w' _ => by kernel_rfl) ?_
  simp only [Act.put, List.setIfInBounds_toArray, List.set_cons_zero, List.set_cons_succ]
  refine q_value 39 rfl (num32 s.count) (by kernel_rfl) (fun w' hC => run_op_load1 _ _ rfl _ Try.underlying22 rfl ⟨S, 98, none⟩ rfl _ ((HR.out.old hC).cell (sc_count OK.out))) ?_
  simp only [Act.put, List.setIfInBounds_toArray, List.set_cons_zero, List.set_cons_succ]
  refine q_value 40 rfl (.pointer (some ⟨S, 97, none⟩)) (by kernel_rfl) (fun w' _ => by kernel_rfl) ?_
  simp only [Act.put, List.setIfInBounds_toArray, List.set_cons_zero, List.set_cons_succ]
  refine q_value 41 rfl (num32 s.len) (by kernel_rfl) (fun w' hC => run_op_load1 _ _ rfl _ Try.underlying22 rfl ⟨S, 97, none⟩ rfl _ ((HR.out.old hC).cell (sc_len OK.out))) ?_
  simp only [Act.put, List.setIfInBounds_toArray, List.set_cons_zero, List.set_cons_succ]
  refine q_value 42 rfl (.bool true) (by kernel_rfl) (fun w' _ => cmp_geq _ _ _ _ rfl .u32 (s.count : Int) (s.len : Int) rfl rfl _ B5.out w') ?_
  simp only [Act.put, List.setIfInBounds_toArray, List.set_cons_zero, List.set_cons_succ]
  refine q_value 43 rfl (.bool true) (by kernel_rfl) (fun w' _ => by kernel_rfl) ?_
  simp only [Act.put, List.setIfInBounds_toArray, List.set_cons_zero, List.set_cons_succ]
  refine wpQuiet_nil ?_
  intro w3 hC
  have bel3 : Below w.heap.size w w3 := below_step bel2 bel2.size hC
  have HR3 := Lib.hid (HR.out.old hC)
  clear hC bel2 HR HR2
  have HR := HR3
  go_wp2_with fail
  go_ret
  exact ⟨rfl, bel3⟩
set_option maxHeartbeats 8000000 in
set_option maxRecDepth 100000 in
theorem rr_no7 (s : Sta) (w : World) (ok : s.Ok) (c1 : Wn.WRt s.min s.last s.counts) (c2 : s.last = s.slot / 3) (c3 : 1 ≤ s.len) (c4 : s.len ≤ s.slot + 1) (c5 : s.count ≤ s.slot / 24) (c6 : s.count < s.len) (c7 : ¬ (1 ≤ s.next.len)) : Calls Try.prog 36 #[.agg (scs s).toArray] w fun e w' => e = .returned (.bool false) ∧ Below w.heap.size w w' := by
  have OK := Lib.hid ok
  have C1 : Hid (∀ w0, Calls Try.prog 62 #[.agg (Wn.wcs s.min s.last s.counts).toArray] w0 fun e w' => e = .returned (.bool true) ∧ Below w0.heap.size w0 w') := Lib.hid (fun w0 => decide_eq_true c1 ▸ Wn.rwright_any s.min s.last s.counts w0 ok.min ok.last ok.counts)
  have B2 : Hid (decide ((s.last : Int) = ((s.slot / 3 : Nat) : Int)) = !false) := Lib.hid (decide_eq_true (by omega))
  have b3 : decide ((s.len : Int) < 1) = false := decide_eq_false (by omega)
  have b4 : decide ((s.slot : Int) + 1 < (s.len : Int)) = false := decide_eq_false (by omega)
  have B4 : Hid (decide (((s.slot / 24 : Nat) : Int) < (s.count : Int)) = false) := Lib.hid (decide_eq_false (by omega))
  have B5 : Hid (decide ((s.len : Int) ≤ (s.count : Int)) = false) := Lib.hid (decide_eq_false (by omega))
  have b7 : decide ((1 : Int) ≤ (s.next.len : Int)) = false := decide_eq_false (by omega)
  have kslot := ok.slot; have klen := ok.len; have knext := ok.next.len
  clear ok c1 c2 c3 c4 c5 c6 c7
  go_enter Try.func36, Try.ntmps36
  go_wp2_with (first
    | ((with_reducible refine at_slot 1 ?_); (refine arm_box (o := ⟨some 1, _, _, _, _, _⟩) rfl _ _ rfl (scs s) rfl ?_); intro S w1 Se hw1 nw1))
  have HR := Lib.hid hw1
  have bel1 := nw1.below
  clear hw1 Se nw1
  refine wp_region_quiet (C := fun w' => Below w1.heap.size w1 w') (by kernel_rfl) (by kernel_rfl) ((Below.refl _ _).drew) ?_
  rw [List.toList_toArray]
  refine q_value 4 rfl (.pointer (some ⟨S, 99, none⟩)) (by kernel_rfl) (fun w' _ => by kernel_rfl) ?_
  simp only [Act.put, List.setIfInBounds_toArray, List.set_cons_zero, List.set_cons_succ]
  refine q_value 5 rfl (.agg (Wn.wcs s.min s.last s.counts).toArray) (by kernel_rfl) (fun w' hC => run_op_load _ _ rfl S 99 rfl _ ((s_win OK.out).range (HR.out.old hC)) (Wn.sz_rwin OK.out.counts)) ?_
  simp only [Act.put, List.setIfInBounds_toArray, List.set_cons_zero, List.set_cons_succ]
  refine q_call 6 rfl (.bool true) 62 #[.agg (Wn.wcs s.min s.last s.counts).toArray] (by kernel_rfl) (fun w' _ => run_op_call _ _ _ rfl _ (by simp only [List.map_toArray, List.map_cons, List.map_nil]; rfl) Try.func62 (by kernel_rfl) (by kernel_rfl) w') (fun w' hC => (C1.out w').mono fun e w'' h => ⟨h.1, below_step hC hC.size h.2⟩) ?_
  simp only [Act.put, List.setIfInBounds_toArray, List.set_cons_zero, List.set_cons_succ]
  refine q_value 7 rfl (.bool false) (by kernel_rfl) (fun w' _ => by kernel_rfl) ?_
  simp only [Act.put, List.setIfInBounds_toArray, List.set_cons_zero, List.set_cons_succ]
  refine q_value 8 rfl (.bool false) (by kernel_rfl) (fun w' _ => by kernel_rfl) ?_
  simp only [Act.put, List.setIfInBounds_toArray, List.set_cons_zero, List.set_cons_succ]
  refine q_value 9 rfl (.pointer (some ⟨S, 99, none⟩)) (by kernel_rfl) (fun w' _ => by kernel_rfl) ?_
  simp only [Act.put, List.setIfInBounds_toArray, List.set_cons_zero, List.set_cons_succ]
  refine q_value 10 rfl (.pointer (some ⟨S, 100, none⟩)) (by kernel_rfl) (fun w' _ => by kernel_rfl) ?_
  simp only [Act.put, List.setIfInBounds_toArray, List.set_cons_zero, List.set_cons_succ]
  refine q_value 11 rfl (.pointer (some ⟨S, 100, none⟩)) (by kernel_rfl) (fun w' _ => by kernel_rfl) ?_
  simp only [Act.put, List.setIfInBounds_toArray, List.set_cons_zero, List.set_cons_succ]
  refine q_value 12 rfl (num32 s.last) (by kernel_rfl) (fun w' hC => run_op_load1 _ _ rfl _ Try.underlying22 rfl ⟨S, 100, none⟩ rfl _ ((HR.out.old hC).cell (sc_last OK.out))) ?_
  simp only [Act.put, List.setIfInBounds_toArray, List.set_cons_zero, List.set_cons_succ]
  refine q_value 13 rfl (.pointer (some ⟨S, 96, none⟩)) (by kernel_rfl) (fun w' _ => by kernel_rfl) ?_
  simp only [Act.put, List.setIfInBounds_toArray, List.set_cons_zero, List.set_cons_succ]
  refine q_value 14 rfl (num32 s.slot) (by kernel_rfl) (fun w' hC => run_op_load1 _ _ rfl _ Try.underlying22 rfl ⟨S, 96, none⟩ rfl _ ((HR.out.old hC).cell (sc_slot OK.out))) ?_
  simp only [Act.put, List.setIfInBounds_toArray, List.set_cons_zero, List.set_cons_succ]
  refine q_call 15 rfl (num32 (s.slot / 3)) 63 #[num32 s.slot] (by kernel_rfl) (fun w' _ => run_op_call _ _ _ rfl _ (by simp only [List.map_toArray, List.map_cons, List.map_nil]; rfl) Try.func63 (by kernel_rfl) (by kernel_rfl) w') (fun w' hC => (Rg.rsubB_any s.slot w' OK.out.slot).mono fun e w'' h => ⟨h.1, below_step hC hC.size h.2⟩) ?_
  simp only [Act.put, List.setIfInBounds_toArray, List.set_cons_zero, List.set_cons_succ]
  refine q_value 16 rfl (.bool false) (by kernel_rfl) (fun w' _ => cmp_neq _ _ .u32 (by kernel_rfl) _ _ rfl .u32 (s.last : Int) ((s.slot / 3 : Nat) : Int) rfl rfl _ B2.out w') ?_
  simp only [Act.put, List.setIfInBounds_toArray, List.set_cons_zero, List.set_cons_succ]
  refine q_value 17 rfl (.bool false) (by kernel_rfl) (fun w' _ => by kernel_rfl) ?_
  simp only [Act.put, List.setIfInBounds_toArray, List.set_cons_zero, List.set_cons_succ]
  refine wpQuiet_nil ?_
  intro w2 hC
  have bel2 : Below w.heap.size w w2 := below_step bel1 bel1.size hC
  have HR2 := Lib.hid (HR.out.old hC)
  clear hC bel1 HR
  have HR := HR2
  have x97 : w2.cell? ⟨S, 97, none⟩ = some (.int .u32 (s.len : Int)) := HR.out.cell (sc_len OK.out)
  have x96 : w2.cell? ⟨S, 96, none⟩ = some (.int .u32 (s.slot : Int)) := HR.out.cell (sc_slot OK.out)
  have x362 : w2.cell? ⟨S, 362, none⟩ = some (.int .u32 (s.next.len : Int)) := HR.out.cell (sc_next OK.out)
  go_wp2_with fail
  clear x97 x96 x362 b3 b4
  refine wp_region_quiet (C := fun w' => Below w2.heap.size w2 w') (by kernel_rfl) (by kernel_rfl) ((Below.refl _ _).drew) ?_
  rw [List.toList_toArray]
  refine q_value 31 rfl (.pointer (some ⟨S, 98, none⟩)) (by kernel_rfl) (fun w' _ => by kernel_rfl) ?_
  simp only [Act.put, List.setIfInBounds_toArray, List.set_cons_zero, List.set_cons_succ]
  refine q_value 32 rfl (num32 s.count) (by kernel_rfl) (fun w' hC => run_op_load1 _ _ rfl _ Try.underlying22 rfl ⟨S, 98, none⟩ rfl _ ((HR.out.old hC).cell (sc_count OK.out))) ?_
  simp only [Act.put, List.setIfInBounds_toArray, List.set_cons_zero, List.set_cons_succ]
  refine q_value 33 rfl (.pointer (some ⟨S, 96, none⟩)) (by kernel_rfl) (fun w' _ => by kernel_rfl) ?_
  simp only [Act.put, List.setIfInBounds_toArray, List.set_cons_zero, List.set_cons_succ]
  refine q_value 34 rfl (num32 s.slot) (by kernel_rfl) (fun w' hC => run_op_load1 _ _ rfl _ Try.underlying22 rfl ⟨S, 96, none⟩ rfl _ ((HR.out.old hC).cell (sc_slot OK.out))) ?_
  simp only [Act.put, List.setIfInBounds_toArray, List.set_cons_zero, List.set_cons_succ]
  refine q_call 35 rfl (num32 (s.slot / 24)) 64 #[num32 s.slot] (by kernel_rfl) (fun w' _ => run_op_call _ _ _ rfl _ (by simp only [List.map_toArray, List.map_cons, List.map_nil]; rfl) Try.func64 (by kernel_rfl) (by kernel_rfl) w') (fun w' hC => (Slot.repoch_nat s.slot w' OK.out.slot).mono fun e w'' h => ⟨h.1, h.2 ▸ hC⟩) ?_
  simp only [Act.put, List.setIfInBounds_toArray, List.set_cons_zero, List.set_cons_succ]
  refine q_value 36 rfl (.bool false) (by kernel_rfl) (fun w' _ => cmp_gtr _ _ _ _ rfl .u32 (s.count : Int) ((s.slot / 24 : Nat) : Int) rfl rfl _ B4.out w') ?_
  simp only [Act.put, List.setIfInBounds_toArray, List.set_cons_zero, List.set_cons_succ]
  refine q_value 37 rfl (.bool false) (by kernel_rfl) (fun w' _ => by kernel_rfl) ?_
  simp only [Act.put, List.setIfInBounds_toArray, List.set_cons_zero, List.set_cons_succ]
  refine q_value 38 rfl (.pointer (some ⟨S, 98, none⟩)) (by kernel_rfl) (fun w' _ => by kernel_rfl) ?_
  simp only [Act.put, List.setIfInBounds_toArray, List.set_cons_zero, List.set_cons_succ]
  refine q_value 39 rfl (num32 s.count) (by kernel_rfl) (fun w' hC => run_op_load1 _ _ rfl _ Try.underlying22 rfl ⟨S, 98, none⟩ rfl _ ((HR.out.old hC).cell (sc_count OK.out))) ?_
  simp only [Act.put, List.setIfInBounds_toArray, List.set_cons_zero, List.set_cons_succ]
  refine q_value 40 rfl (.pointer (some ⟨S, 97, none⟩)) (by kernel_rfl) (fun w' _ => by kernel_rfl) ?_
  simp only [Act.put, List.setIfInBounds_toArray, List.set_cons_zero, List.set_cons_succ]
  refine q_value 41 rfl (num32 s.len) (by kernel_rfl) (fun w' hC => run_op_load1 _ _ rfl _ Try.underlying22 rfl ⟨S, 97, none⟩ rfl _ ((HR.out.old hC).cell (sc_len OK.out))) ?_
  simp only [Act.put, List.setIfInBounds_toArray, List.set_cons_zero, List.set_cons_succ]
  refine q_value 42 rfl (.bool false) (by kernel_rfl) (fun w' _ => cmp_geq _ _ _ _ rfl .u32 (s.count : Int) (s.len : Int) rfl rfl _ B5.out w') ?_
  simp only [Act.put, List.setIfInBounds_toArray, List.set_cons_zero, List.set_cons_succ]
  refine q_value 43 rfl (.bool false) (by kernel_rfl) (fun w' _ => by kernel_rfl) ?_
  simp only [Act.put, List.setIfInBounds_toArray, List.set_cons_zero, List.set_cons_succ]
  refine wpQuiet_nil ?_
  intro w3 hC
  have bel3 : Below w.heap.size w w3 := below_step bel2 bel2.size hC
  have HR3 := Lib.hid (HR.out.old hC)
  clear hC bel2 HR HR2
  have HR := HR3
  have x97 : w3.cell? ⟨S, 97, none⟩ = some (.int .u32 (s.len : Int)) := HR.out.cell (sc_len OK.out)
  have x96 : w3.cell? ⟨S, 96, none⟩ = some (.int .u32 (s.slot : Int)) := HR.out.cell (sc_slot OK.out)
  have x362 : w3.cell? ⟨S, 362, none⟩ = some (.int .u32 (s.next.len : Int)) := HR.out.cell (sc_next OK.out)
  go_wp2_with fail
  go_ret
  exact ⟨rfl, bel3⟩
set_option maxHeartbeats 8000000 in
set_option maxRecDepth 100000 in
theorem rr_no8 (s : Sta) (w : World) (ok : s.Ok) (c1 : Wn.WRt s.min s.last s.counts) (c2 : s.last = s.slot / 3) (c3 : 1 ≤ s.len) (c4 : s.len ≤ s.slot + 1) (c5 : s.count ≤ s.slot / 24) (c6 : s.count < s.len) (c7 : 1 ≤ s.next.len) (c8 : ¬ (s.next.len ≤ s.len)) : Calls Try.prog 36 #[.agg (scs s).toArray] w fun e w' => e = .returned (.bool false) ∧ Below w.heap.size w w' := by
  have OK := Lib.hid ok
  have C1 : Hid (∀ w0, Calls Try.prog 62 #[.agg (Wn.wcs s.min s.last s.counts).toArray] w0 fun e w' => e = .returned (.bool true) ∧ Below w0.heap.size w0 w') := Lib.hid (fun w0 => decide_eq_true c1 ▸ Wn.rwright_any s.min s.last s.counts w0 ok.min ok.last ok.counts)
  have B2 : Hid (decide ((s.last : Int) = ((s.slot / 3 : Nat) : Int)) = !false) := Lib.hid (decide_eq_true (by omega))
  have b3 : decide ((s.len : Int) < 1) = false := decide_eq_false (by omega)
  have b4 : decide ((s.slot : Int) + 1 < (s.len : Int)) = false := decide_eq_false (by omega)
  have B4 : Hid (decide (((s.slot / 24 : Nat) : Int) < (s.count : Int)) = false) := Lib.hid (decide_eq_false (by omega))
  have B5 : Hid (decide ((s.len : Int) ≤ (s.count : Int)) = false) := Lib.hid (decide_eq_false (by omega))
  have b7 : decide ((1 : Int) ≤ (s.next.len : Int)) = true := decide_eq_true (by omega)
  have b8 : decide (s.next.len ≤ s.len) = false := decide_eq_false c8
  have kslot := ok.slot; have klen := ok.len; have knext := ok.next.len
  clear ok c1 c2 c3 c4 c5 c6 c7 c8
  go_enter Try.func36, Try.ntmps36
  go_wp2_with (first
    | ((with_reducible refine at_slot 1 ?_); (refine arm_box (o := ⟨some 1, _, _, _, _, _⟩) rfl _ _ rfl (scs s) rfl ?_); intro S w1 Se hw1 nw1))
  have HR := Lib.hid hw1
  have bel1 := nw1.below
  clear hw1 Se nw1
  refine wp_region_quiet (C := fun w' => Below w1.heap.size w1 w') (by kernel_rfl) (by kernel_rfl) ((Below.refl _ _).drew) ?_
  rw [List.toList_toArray]
  refine q_value 4 rfl (.pointer (some ⟨S, 99, none⟩)) (by kernel_rfl) (fun w' _ => by kernel_rfl) ?_
  simp only [Act.put, List.setIfInBounds_toArray, List.set_cons_zero, List.set_cons_succ]
  refine q_value 5 rfl (.agg (Wn.wcs s.min s.last s.counts).toArray) (by kernel_rfl) (fun w' hC => run_op_load _ _ rfl S 99 rfl _ ((s_win OK.out).range (HR.out.old hC)) (Wn.sz_rwin OK.out.counts)) ?_
  simp only [Act.put, List.setIfInBounds_toArray, List.set_cons_zero, List.set_cons_succ]
  refine q_call 6 rfl (.bool true) 62 #[.agg (Wn.wcs s.min s.last s.counts).toArray] (by kernel_rfl) (fun w' _ => run_op_call _ _ _ rfl _ (by simp only [List.map_toArray, List.map_cons, List.map_nil]; rfl) Try.func62 (by kernel_rfl) (by kernel_rfl) w') (fun w' hC => (C1.out w').mono fun e w'' h => ⟨h.1, below_step hC hC.size h.2⟩) ?_
  simp only [Act.put, List.setIfInBounds_toArray, List.set_cons_zero, List.set_cons_succ]
  refine q_value 7 rfl (.bool false) (by kernel_rfl) (fun w' _ => by kernel_rfl) ?_
  simp only [Act.put, List.setIfInBounds_toArray, List.set_cons_zero, List.set_cons_succ]
  refine q_value 8 rfl (.bool false) (by kernel_rfl) (fun w' _ => by kernel_rfl) ?_
  simp only [Act.put, List.setIfInBounds_toArray, List.set_cons_zero, List.set_cons_succ]
  refine q_value 9 rfl (.pointer (some ⟨S, 99, none⟩)) (by kernel_rfl) (fun w' _ => by kernel_rfl) ?_
  simp only [Act.put, List.setIfInBounds_toArray, List.set_cons_zero, List.set_cons_succ]
  refine q_value 10 rfl (.pointer (some ⟨S, 100, none⟩)) (by kernel_rfl) (fun w' _ => by kernel_rfl) ?_
  simp only [Act.put, List.setIfInBounds_toArray, List.set_cons_zero, List.set_cons_succ]
  refine q_value 11 rfl (.pointer (some ⟨S, 100, none⟩)) (by kernel_rfl) (fun w' _ => by kernel_rfl) ?_
  simp only [Act.put, List.setIfInBounds_toArray, List.set_cons_zero, List.set_cons_succ]
  refine q_value 12 rfl (num32 s.last) (by kernel_rfl) (fun w' hC => run_op_load1 _ _ rfl _ Try.underlying22 rfl ⟨S, 100, none⟩ rfl _ ((HR.out.old hC).cell (sc_last OK.out))) ?_
  simp only [Act.put, List.setIfInBounds_toArray, List.set_cons_zero, List.set_cons_succ]
  refine q_value 13 rfl (.pointer (some ⟨S, 96, none⟩)) (by kernel_rfl) (fun w' _ => by kernel_rfl) ?_
  simp only [Act.put, List.setIfInBounds_toArray, List.set_cons_zero, List.set_cons_succ]
  refine q_value 14 rfl (num32 s.slot) (by kernel_rfl) (fun w' hC => run_op_load1 _ _ rfl _ Try.underlying22 rfl ⟨S, 96, none⟩ rfl _ ((HR.out.old hC).cell (sc_slot OK.out))) ?_
  simp only [Act.put, List.setIfInBounds_toArray, List.set_cons_zero, List.set_cons_succ]
  refine q_call 15 rfl (num32 (s.slot / 3)) 63 #[num32 s.slot] (by kernel_rfl) (fun w' _ => run_op_call _ _ _ rfl _ (by simp only [List.map_toArray, List.map_cons, List.map_nil]; rfl) Try.func63 (by kernel_rfl) (by kernel_rfl) w') (fun w' hC => (Rg.rsubB_any s.slot w' OK.out.slot).mono fun e w'' h => ⟨h.1, below_step hC hC.size h.2⟩) ?_
  simp only [Act.put, List.setIfInBounds_toArray, List.set_cons_zero, List.set_cons_succ]
  refine q_value 16 rfl (.bool false) (by kernel_rfl) (fun w' _ => cmp_neq _ _ .u32 (by kernel_rfl) _ _ rfl .u32 (s.last : Int) ((s.slot / 3 : Nat) : Int) rfl rfl _ B2.out w') ?_
  simp only [Act.put, List.setIfInBounds_toArray, List.set_cons_zero, List.set_cons_succ]
  refine q_value 17 rfl (.bool false) (by kernel_rfl) (fun w' _ => by kernel_rfl) ?_
  simp only [Act.put, List.setIfInBounds_toArray, List.set_cons_zero, List.set_cons_succ]
  refine wpQuiet_nil ?_
  intro w2 hC
  have bel2 : Below w.heap.size w w2 := below_step bel1 bel1.size hC
  have HR2 := Lib.hid (HR.out.old hC)
  clear hC bel1 HR
  have HR := HR2
  have x97 : w2.cell? ⟨S, 97, none⟩ = some (.int .u32 (s.len : Int)) := HR.out.cell (sc_len OK.out)
  have x96 : w2.cell? ⟨S, 96, none⟩ = some (.int .u32 (s.slot : Int)) := HR.out.cell (sc_slot OK.out)
  have x362 : w2.cell? ⟨S, 362, none⟩ = some (.int .u32 (s.next.len : Int)) := HR.out.cell (sc_next OK.out)
  go_wp2_with fail
  clear x97 x96 x362 b3 b4
  refine wp_region_quiet (C := fun w' => Below w2.heap.size w2 w') (by kernel_rfl) (by kernel_rfl) ((Below.refl _ _).drew) ?_
  rw [List.toList_toArray]
  refine q_value 31 rfl (.pointer (some ⟨S, 98, none⟩)) (by kernel_rfl) (fun w' _ => by kernel_rfl) ?_
  simp only [Act.put, List.setIfInBounds_toArray, List.set_cons_zero, List.set_cons_succ]
  refine q_value 32 rfl (num32 s.count) (by kernel_rfl) (fun w' hC => run_op_load1 _ _ rfl _ Try.underlying22 rfl ⟨S, 98, none⟩ rfl _ ((HR.out.old hC).cell (sc_count OK.out))) ?_
  simp only [Act.put, List.setIfInBounds_toArray, List.set_cons_zero, List.set_cons_succ]
  refine q_value 33 rfl (.pointer (some ⟨S, 96, none⟩)) (by kernel_rfl) (fun w' _ => by kernel_rfl) ?_
  simp only [Act.put, List.setIfInBounds_toArray, List.set_cons_zero, List.set_cons_succ]
  refine q_value 34 rfl (num32 s.slot) (by kernel_rfl) (fun w' hC => run_op_load1 _ _ rfl _ Try.underlying22 rfl ⟨S, 96, none⟩ rfl _ ((HR.out.old hC).cell (sc_slot OK.out))) ?_
  simp only [Act.put, List.setIfInBounds_toArray, List.set_cons_zero, List.set_cons_succ]
  refine q_call 35 rfl (num32 (s.slot / 24)) 64 #[num32 s.slot] (by kernel_rfl) (fun w' _ => run_op_call _ _ _ rfl _ (by simp only [List.map_toArray, List.map_cons, List.map_nil]; rfl) Try.func64 (by kernel_rfl) (by kernel_rfl) w') (fun w' hC => (Slot.repoch_nat s.slot w' OK.out.slot).mono fun e w'' h => ⟨h.1, h.2 ▸ hC⟩) ?_
  simp only [Act.put, List.setIfInBounds_toArray, List.set_cons_zero, List.set_cons_succ]
  refine q_value 36 rfl (.bool false) (by kernel_rfl) (fun w' _ => cmp_gtr _ _ _ _ rfl .u32 (s.count : Int) ((s.slot / 24 : Nat) : Int) rfl rfl _ B4.out w') ?_
  simp only [Act.put, List.setIfInBounds_toArray, List.set_cons_zero, List.set_cons_succ]
  refine q_value 37 rfl (.bool false) (by kernel_rfl) (fun w' _ => by kernel_rfl) ?_
  simp only [Act.put, List.setIfInBounds_toArray, List.set_cons_zero, List.set_cons_succ]
  refine q_value 38 rfl (.pointer (some ⟨S, 98, none⟩)) (by kernel_rfl) (fun w' _ => by kernel_rfl) ?_
  simp only [Act.put, List.setIfInBounds_toArray, List.set_cons_zero, List.set_cons_succ]
  refine q_value 39 rfl (num32 s.count) (by kernel_rfl) (fun w' hC => run_op_load1 _ _ rfl _ Try.underlying22 rfl ⟨S, 98, none⟩ rfl _ ((HR.out.old hC).cell (sc_count OK.out))) ?_
  simp only [Act.put, List.setIfInBounds_toArray, List.set_cons_zero, List.set_cons_succ]
  refine q_value 40 rfl (.pointer (some ⟨S, 97, none⟩)) (by kernel_rfl) (fun w' _ => by kernel_rfl) ?_
  simp only [Act.put, List.setIfInBounds_toArray, List.set_cons_zero, List.set_cons_succ]
  refine q_value 41 rfl (num32 s.len) (by kernel_rfl) (fun w' hC => run_op_load1 _ _ rfl _ Try.underlying22 rfl ⟨S, 97, none⟩ rfl _ ((HR.out.old hC).cell (sc_len OK.out))) ?_
  simp only [Act.put, List.setIfInBounds_toArray, List.set_cons_zero, List.set_cons_succ]
  refine q_value 42 rfl (.bool false) (by kernel_rfl) (fun w' _ => cmp_geq _ _ _ _ rfl .u32 (s.count : Int) (s.len : Int) rfl rfl _ B5.out w') ?_
  simp only [Act.put, List.setIfInBounds_toArray, List.set_cons_zero, List.set_cons_succ]
  refine q_value 43 rfl (.bool false) (by kernel_rfl) (fun w' _ => by kernel_rfl) ?_
  simp only [Act.put, List.setIfInBounds_toArray, List.set_cons_zero, List.set_cons_succ]
  refine wpQuiet_nil ?_
  intro w3 hC
  have bel3 : Below w.heap.size w w3 := below_step bel2 bel2.size hC
  have HR3 := Lib.hid (HR.out.old hC)
  clear hC bel2 HR HR2
  have HR := HR3
  have x97 : w3.cell? ⟨S, 97, none⟩ = some (.int .u32 (s.len : Int)) := HR.out.cell (sc_len OK.out)
  have x96 : w3.cell? ⟨S, 96, none⟩ = some (.int .u32 (s.slot : Int)) := HR.out.cell (sc_slot OK.out)
  have x362 : w3.cell? ⟨S, 362, none⟩ = some (.int .u32 (s.next.len : Int)) := HR.out.cell (sc_next OK.out)
  go_wp2_with fail
  go_ret
  exact ⟨rfl, bel3⟩
set_option maxHeartbeats 8000000 in
set_option maxRecDepth 100000 in
theorem rr_no9 (s : Sta) (w : World) (ok : s.Ok) (c1 : Wn.WRt s.min s.last s.counts) (c2 : s.last = s.slot / 3) (c3 : 1 ≤ s.len) (c4 : s.len ≤ s.slot + 1) (c5 : s.count ≤ s.slot / 24) (c6 : s.count < s.len) (c7 : 1 ≤ s.next.len) (c8 : s.next.len ≤ s.len) (c9 : ¬ (s.next.len ≤ s.slot % 24 + 1)) : Calls Try.prog 36 #[.agg (scs s).toArray] w fun e w' => e = .returned (.bool false) ∧ Below w.heap.size w w' := by
  have OK := Lib.hid ok
  have C1 : Hid (∀ w0, Calls Try.prog 62 #[.agg (Wn.wcs s.min s.last s.counts).toArray] w0 fun e w' => e = .returned (.bool true) ∧ Below w0.heap.size w0 w') := Lib.hid (fun w0 => decide_eq_true c1 ▸ Wn.rwright_any s.min s.last s.counts w0 ok.min ok.last ok.counts)
  have B2 : Hid (decide ((s.last : Int) = ((s.slot / 3 : Nat) : Int)) = !false) := Lib.hid (decide_eq_true (by omega))
  have b3 : decide ((s.len : Int) < 1) = false := decide_eq_false (by omega)
  have b4 : decide ((s.slot : Int) + 1 < (s.len : Int)) = false := decide_eq_false (by omega)
  have B4 : Hid (decide (((s.slot / 24 : Nat) : Int) < (s.count : Int)) = false) := Lib.hid (decide_eq_false (by omega))
  have B5 : Hid (decide ((s.len : Int) ≤ (s.count : Int)) = false) := Lib.hid (decide_eq_false (by omega))
  have b7 : decide ((1 : Int) ≤ (s.next.len : Int)) = true := decide_eq_true (by omega)
  have b8 : decide (s.next.len ≤ s.len) = true := decide_eq_true c8
  have b9 : decide ((s.next.len : Int) ≤ ((s.slot % 24 : Nat) : Int) + 1) = false := decide_eq_false (by omega)
  have CPL : Hid (∀ w0, Calls Try.prog 65 #[num32 s.slot] w0 fun e w' => e = .returned (num32 (s.slot % 24)) ∧ w0 = w') := Lib.hid (fun w0 => (Slot.rplace_any (s.slot : Int) w0 (by omega) (by have := ok.slot; omega)).mono fun e w' h => ⟨by rw [h.1]; exact congrArg (fun n => Ending.returned (.int .u32 n)) (by omega), h.2⟩)
  have kslot := ok.slot; have klen := ok.len; have knext := ok.next.len
  clear ok c1 c2 c3 c4 c5 c6 c7 c8 c9
  go_enter Try.func36, Try.ntmps36
  go_wp2_with (first
    | ((with_reducible refine at_slot 1 ?_); (refine arm_box (o := ⟨some 1, _, _, _, _, _⟩) rfl _ _ rfl (scs s) rfl ?_); intro S w1 Se hw1 nw1))
  have HR := Lib.hid hw1
  have bel1 := nw1.below
  clear hw1 Se nw1
  refine wp_region_quiet (C := fun w' => Below w1.heap.size w1 w') (by kernel_rfl) (by kernel_rfl) ((Below.refl _ _).drew) ?_
  rw [List.toList_toArray]
  refine q_value 4 rfl (.pointer (some ⟨S, 99, none⟩)) (by kernel_rfl) (fun w' _ => by kernel_rfl) ?_
  simp only [Act.put, List.setIfInBounds_toArray, List.set_cons_zero, List.set_cons_succ]
  refine q_value 5 rfl (.agg (Wn.wcs s.min s.last s.counts).toArray) (by kernel_rfl) (fun w' hC => run_op_load _ _ rfl S 99 rfl _ ((s_win OK.out).range (HR.out.old hC)) (Wn.sz_rwin OK.out.counts)) ?_
  simp only [Act.put, List.setIfInBounds_toArray, List.set_cons_zero, List.set_cons_succ]
  refine q_call 6 rfl (.bool true) 62 #[.agg (Wn.wcs s.min s.last s.counts).toArray] (by kernel_rfl) (fun w' _ => run_op_call _ _ _ rfl _ (by simp only [List.map_toArray, List.map_cons, List.map_nil]; rfl) Try.func62 (by kernel_rfl) (by kernel_rfl) w') (fun w' hC => (C1.out w').mono fun e w'' h => ⟨h.1, below_step hC hC.size h.2⟩) ?_
  simp only [Act.put, List.setIfInBounds_toArray, List.set_cons_zero, List.set_cons_succ]
  refine q_value 7 rfl (.bool false) (by kernel_rfl) (fun w' _ => by kernel_rfl) ?_
  simp only [Act.put, List.setIfInBounds_toArray, List.set_cons_zero, List.set_cons_succ]
  refine q_value 8 rfl (.bool false) (by kernel_rfl) (fun w' _ => by kernel_rfl) ?_
  simp only [Act.put, List.setIfInBounds_toArray, List.set_cons_zero, List.set_cons_succ]
  refine q_value 9 rfl (.pointer (some ⟨S, 99, none⟩)) (by kernel_rfl) (fun w' _ => by kernel_rfl) ?_
  simp only [Act.put, List.setIfInBounds_toArray, List.set_cons_zero, List.set_cons_succ]
  refine q_value 10 rfl (.pointer (some ⟨S, 100, none⟩)) (by kernel_rfl) (fun w' _ => by kernel_rfl) ?_
  simp only [Act.put, List.setIfInBounds_toArray, List.set_cons_zero, List.set_cons_succ]
  refine q_value 11 rfl (.pointer (some ⟨S, 100, none⟩)) (by kernel_rfl) (fun w' _ => by kernel_rfl) ?_
  simp only [Act.put, List.setIfInBounds_toArray, List.set_cons_zero, List.set_cons_succ]
  refine q_value 12 rfl (num32 s.last) (by kernel_rfl) (fun w' hC => run_op_load1 _ _ rfl _ Try.underlying22 rfl ⟨S, 100, none⟩ rfl _ ((HR.out.old hC).cell (sc_last OK.out))) ?_
  simp only [Act.put, List.setIfInBounds_toArray, List.set_cons_zero, List.set_cons_succ]
  refine q_value 13 rfl (.pointer (some ⟨S, 96, none⟩)) (by kernel_rfl) (fun w' _ => by kernel_rfl) ?_
  simp only [Act.put, List.setIfInBounds_toArray, List.set_cons_zero, List.set_cons_succ]
  refine q_value 14 rfl (num32 s.slot) (by kernel_rfl) (fun w' hC => run_op_load1 _ _ rfl _ Try.underlying22 rfl ⟨S, 96, none⟩ rfl _ ((HR.out.old hC).cell (sc_slot OK.out))) ?_
  simp only [Act.put, List.setIfInBounds_toArray, List.set_cons_zero, List.set_cons_succ]
  refine q_call 15 rfl (num32 (s.slot / 3)) 63 #[num32 s.slot] (by kernel_rfl) (fun w' _ => run_op_call _ _ _ rfl _ (by simp only [List.map_toArray, List.map_cons, List.map_nil]; rfl) Try.func63 (by kernel_rfl) (by kernel_rfl) w') (fun w' hC => (Rg.rsubB_any s.slot w' OK.out.slot).mono fun e w'' h => ⟨h.1, below_step hC hC.size h.2⟩) ?_
  simp only [Act.put, List.setIfInBounds_toArray, List.set_cons_zero, List.set_cons_succ]
  refine q_value 16 rfl (.bool false) (by kernel_rfl) (fun w' _ => cmp_neq _ _ .u32 (by kernel_rfl) _ _ rfl .u32 (s.last : Int) ((s.slot / 3 : Nat) : Int) rfl rfl _ B2.out w') ?_
  simp only [Act.put, List.setIfInBounds_toArray, List.set_cons_zero, List.set_cons_succ]
  refine q_value 17 rfl (.bool false) (by kernel_rfl) (fun w' _ => by kernel_rfl) ?_
  simp only [Act.put, List.setIfInBounds_toArray, List.set_cons_zero, List.set_cons_succ]
  refine wpQuiet_nil ?_
  intro w2 hC
  have bel2 : Below w.heap.size w w2 := below_step bel1 bel1.size hC
  have HR2 := Lib.hid (HR.out.old hC)
  clear hC bel1 HR
  have HR := HR2
  have x97 : w2.cell? ⟨S, 97, none⟩ = some (.int .u32 (s.len : Int)) := HR.out.cell (sc_len OK.out)
  have x96 : w2.cell? ⟨S, 96, none⟩ = some (.int .u32 (s.slot : Int)) := HR.out.cell (sc_slot OK.out)
  have x362 : w2.cell? ⟨S, 362, none⟩ = some (.int .u32 (s.next.len : Int)) := HR.out.cell (sc_next OK.out)
  go_wp2_with fail
  clear x97 x96 x362 b3 b4
  refine wp_region_quiet (C := fun w' => Below w2.heap.size w2 w') (by kernel_rfl) (by kernel_rfl) ((Below.refl _ _).drew) ?_
  rw [List.toList_toArray]
  refine q_value 31 rfl (.pointer (some ⟨S, 98, none⟩)) (by kernel_rfl) (fun w' _ => by kernel_rfl) ?_
  simp only [Act.put, List.setIfInBounds_toArray, List.set_cons_zero, List.set_cons_succ]
  refine q_value 32 rfl (num32 s.count) (by kernel_rfl) (fun w' hC => run_op_load1 _ _ rfl _ Try.underlying22 rfl ⟨S, 98, none⟩ rfl _ ((HR.out.old hC).cell (sc_count OK.out))) ?_
  simp only [Act.put, List.setIfInBounds_toArray, List.set_cons_zero, List.set_cons_succ]
  refine q_value 33 rfl (.pointer (some ⟨S, 96, none⟩)) (by kernel_rfl) (fun w' _ => by kernel_rfl) ?_
  simp only [Act.put, List.setIfInBounds_toArray, List.set_cons_zero, List.set_cons_succ]
  refine q_value 34 rfl (num32 s.slot) (by kernel_rfl) (fun w' hC => run_op_load1 _ _ rfl _ Try.underlying22 rfl ⟨S, 96, none⟩ rfl _ ((HR.out.old hC).cell (sc_slot OK.out))) ?_
  simp only [Act.put, List.setIfInBounds_toArray, List.set_cons_zero, List.set_cons_succ]
  refine q_call 35 rfl (num32 (s.slot / 24)) 64 #[num32 s.slot] (by kernel_rfl) (fun w' _ => run_op_call _ _ _ rfl _ (by simp only [List.map_toArray, List.map_cons, List.map_nil]; rfl) Try.func64 (by kernel_rfl) (by kernel_rfl) w') (fun w' hC => (Slot.repoch_nat s.slot w' OK.out.slot).mono fun e w'' h => ⟨h.1, h.2 ▸ hC⟩) ?_
  simp only [Act.put, List.setIfInBounds_toArray, List.set_cons_zero, List.set_cons_succ]
  refine q_value 36 rfl (.bool false) (by kernel_rfl) (fun w' _ => cmp_gtr _ _ _ _ rfl .u32 (s.count : Int) ((s.slot / 24 : Nat) : Int) rfl rfl _ B4.out w') ?_
  simp only [Act.put, List.setIfInBounds_toArray, List.set_cons_zero, List.set_cons_succ]
  refine q_value 37 rfl (.bool false) (by kernel_rfl) (fun w' _ => by kernel_rfl) ?_
  simp only [Act.put, List.setIfInBounds_toArray, List.set_cons_zero, List.set_cons_succ]
  refine q_value 38 rfl (.pointer (some ⟨S, 98, none⟩)) (by kernel_rfl) (fun w' _ => by kernel_rfl) ?_
  simp only [Act.put, List.setIfInBounds_toArray, List.set_cons_zero, List.set_cons_succ]
  refine q_value 39 rfl (num32 s.count) (by kernel_rfl) (fun w' hC => run_op_load1 _ _ rfl _ Try.underlying22 rfl ⟨S, 98, none⟩ rfl _ ((HR.out.old hC).cell (sc_count OK.out))) ?_
  simp only [Act.put, List.setIfInBounds_toArray, List.set_cons_zero, List.set_cons_succ]
  refine q_value 40 rfl (.pointer (some ⟨S, 97, none⟩)) (by kernel_rfl) (fun w' _ => by kernel_rfl) ?_
  simp only [Act.put, List.setIfInBounds_toArray, List.set_cons_zero, List.set_cons_succ]
  refine q_value 41 rfl (num32 s.len) (by kernel_rfl) (fun w' hC => run_op_load1 _ _ rfl _ Try.underlying22 rfl ⟨S, 97, none⟩ rfl _ ((HR.out.old hC).cell (sc_len OK.out))) ?_
  simp only [Act.put, List.setIfInBounds_toArray, List.set_cons_zero, List.set_cons_succ]
  refine q_value 42 rfl (.bool false) (by kernel_rfl) (fun w' _ => cmp_geq _ _ _ _ rfl .u32 (s.count : Int) (s.len : Int) rfl rfl _ B5.out w') ?_
  simp only [Act.put, List.setIfInBounds_toArray, List.set_cons_zero, List.set_cons_succ]
  refine q_value 43 rfl (.bool false) (by kernel_rfl) (fun w' _ => by kernel_rfl) ?_
  simp only [Act.put, List.setIfInBounds_toArray, List.set_cons_zero, List.set_cons_succ]
  refine wpQuiet_nil ?_
  intro w3 hC
  have bel3 : Below w.heap.size w w3 := below_step bel2 bel2.size hC
  have HR3 := Lib.hid (HR.out.old hC)
  clear hC bel2 HR HR2
  have HR := HR3
  have x97 : w3.cell? ⟨S, 97, none⟩ = some (.int .u32 (s.len : Int)) := HR.out.cell (sc_len OK.out)
  have x96 : w3.cell? ⟨S, 96, none⟩ = some (.int .u32 (s.slot : Int)) := HR.out.cell (sc_slot OK.out)
  have x362 : w3.cell? ⟨S, 362, none⟩ = some (.int .u32 (s.next.len : Int)) := HR.out.cell (sc_next OK.out)
  go_wp2_with fail
  refine (CPL.out w3).mono ?_
  rintro e w4 ⟨rfl, rfl⟩
  have hpl : s.slot % 24 < 24 := Nat.mod_lt _ (by decide)
  obtain ⟨m, hm⟩ : ∃ m, m = s.slot % 24 := ⟨_, rfl⟩
  rw [← hm] at b9 hpl ⊢
  clear hm
  unfold num32
  go_wp2_with fail
  go_ret
  exact ⟨rfl, bel3⟩
set_option maxHeartbeats 8000000 in
set_option maxRecDepth 100000 in
theorem rr_all (s : Sta) (w : World) (ok : s.Ok) (c1 : Wn.WRt s.min s.last s.counts) (c2 : s.last = s.slot / 3) (c3 : 1 ≤ s.len) (c4 : s.len ≤ s.slot + 1) (c5 : s.count ≤ s.slot / 24) (c6 : s.count < s.len) (c7 : 1 ≤ s.next.len) (c8 : s.next.len ≤ s.len) (c9 : s.next.len ≤ s.slot % 24 + 1) : Calls Try.prog 36 #[.agg (scs s).toArray] w fun e w' => e = .returned (.bool true) ∧ Below w.heap.size w w' := by
  have OK := Lib.hid ok
  have C1 : Hid (∀ w0, Calls Try.prog 62 #[.agg (Wn.wcs s.min s.last s.counts).toArray] w0 fun e w' => e = .returned (.bool true) ∧ Below w0.heap.size w0 w') := Lib.hid (fun w0 => decide_eq_true c1 ▸ Wn.rwright_any s.min s.last s.counts w0 ok.min ok.last ok.counts)
  have B2 : Hid (decide ((s.last : Int) = ((s.slot / 3 : Nat) : Int)) = !false) := Lib.hid (decide_eq_true (by omega))
  have b3 : decide ((s.len : Int) < 1) = false := decide_eq_false (by omega)
  have b4 : decide ((s.slot : Int) + 1 < (s.len : Int)) = false := decide_eq_false (by omega)
  have B4 : Hid (decide (((s.slot / 24 : Nat) : Int) < (s.count : Int)) = false) := Lib.hid (decide_eq_false (by omega))
  have B5 : Hid (decide ((s.len : Int) ≤ (s.count : Int)) = false) := Lib.hid (decide_eq_false (by omega))
  have b7 : decide ((1 : Int) ≤ (s.next.len : Int)) = true := decide_eq_true (by omega)
  have b8 : decide (s.next.len ≤ s.len) = true := decide_eq_true c8
  have b9 : decide ((s.next.len : Int) ≤ ((s.slot % 24 : Nat) : Int) + 1) = true := decide_eq_true (by omega)
  have CPL : Hid (∀ w0, Calls Try.prog 65 #[num32 s.slot] w0 fun e w' => e = .returned (num32 (s.slot % 24)) ∧ w0 = w') := Lib.hid (fun w0 => (Slot.rplace_any (s.slot : Int) w0 (by omega) (by have := ok.slot; omega)).mono fun e w' h => ⟨by rw [h.1]; exact congrArg (fun n => Ending.returned (.int .u32 n)) (by omega), h.2⟩)
  have kslot := ok.slot; have klen := ok.len; have knext := ok.next.len
  clear ok c1 c2 c3 c4 c5 c6 c7 c8 c9
  go_enter Try.func36, Try.ntmps36
  go_wp2_with (first
    | ((with_reducible refine at_slot 1 ?_); (refine arm_box (o := ⟨some 1, _, _, _, _, _⟩) rfl _ _ rfl (scs s) rfl ?_); intro S w1 Se hw1 nw1))
  have HR := Lib.hid hw1
  have bel1 := nw1.below
  clear hw1 Se nw1
  refine wp_region_quiet (C := fun w' => Below w1.heap.size w1 w') (by kernel_rfl) (by kernel_rfl) ((Below.refl _ _).drew) ?_
  rw [List.toList_toArray]
  refine q_value 4 rfl (.pointer (some ⟨S, 99, none⟩)) (by kernel_rfl) (fun w' _ => by kernel_rfl) ?_
  simp only [Act.put, List.setIfInBounds_toArray, List.set_cons_zero, List.set_cons_succ]
  refine q_value 5 rfl (.agg (Wn.wcs s.min s.last s.counts).toArray) (by kernel_rfl) (fun w' hC => run_op_load _ _ rfl S 99 rfl _ ((s_win OK.out).range (HR.out.old hC)) (Wn.sz_rwin OK.out.counts)) ?_
  simp only [Act.put, List.setIfInBounds_toArray, List.set_cons_zero, List.set_cons_succ]
  refine q_call 6 rfl (.bool true) 62 #[.agg (Wn.wcs s.min s.last s.counts).toArray] (by kernel_rfl) (fun w' _ => run_op_call _ _ _ rfl _ (by simp only [List.map_toArray, List.map_cons, List.map_nil]; rfl) Try.func62 (by kernel_rfl) (by kernel_rfl) w') (fun w' hC => (C1.out w').mono fun e w'' h => ⟨h.1, below_step hC hC.size h.2⟩) ?_
  simp only [Act.put, List.setIfInBounds_toArray, List.set_cons_zero, List.set_cons_succ]
  refine q_value 7 rfl (.bool false) (by kernel_rfl) (fun w' _ => by kernel_rfl) ?_
  simp only [Act.put, List.setIfInBounds_toArray, List.set_cons_zero, List.set_cons_succ]
  refine q_value 8 rfl (.bool false) (by kernel_rfl) (fun w' _ => by kernel_rfl) ?_
  simp only [Act.put, List.setIfInBounds_toArray, List.set_cons_zero, List.set_cons_succ]
  refine q_value 9 rfl (.pointer (some ⟨S, 99, none⟩)) (by kernel_rfl) (fun w' _ => by kernel_rfl) ?_
  simp only [Act.put, List.setIfInBounds_toArray, List.set_cons_zero, List.set_cons_succ]
  refine q_value 10 rfl (.pointer (some ⟨S, 100, none⟩)) (by kernel_rfl) (fun w' _ => by kernel_rfl) ?_
  simp only [Act.put, List.setIfInBounds_toArray, List.set_cons_zero, List.set_cons_succ]
  refine q_value 11 rfl (.pointer (some ⟨S, 100, none⟩)) (by kernel_rfl) (fun w' _ => by kernel_rfl) ?_
  simp only [Act.put, List.setIfInBounds_toArray, List.set_cons_zero, List.set_cons_succ]
  refine q_value 12 rfl (num32 s.last) (by kernel_rfl) (fun w' hC => run_op_load1 _ _ rfl _ Try.underlying22 rfl ⟨S, 100, none⟩ rfl _ ((HR.out.old hC).cell (sc_last OK.out))) ?_
  simp only [Act.put, List.setIfInBounds_toArray, List.set_cons_zero, List.set_cons_succ]
  refine q_value 13 rfl (.pointer (some ⟨S, 96, none⟩)) (by kernel_rfl) (fun w' _ => by kernel_rfl) ?_
  simp only [Act.put, List.setIfInBounds_toArray, List.set_cons_zero, List.set_cons_succ]
  refine q_value 14 rfl (num32 s.slot) (by kernel_rfl) (fun w' hC => run_op_load1 _ _ rfl _ Try.underlying22 rfl ⟨S, 96, none⟩ rfl _ ((HR.out.old hC).cell (sc_slot OK.out))) ?_
  simp only [Act.put, List.setIfInBounds_toArray, List.set_cons_zero, List.set_cons_succ]
  refine q_call 15 rfl (num32 (s.slot / 3)) 63 #[num32 s.slot] (by kernel_rfl) (fun w' _ => run_op_call _ _ _ rfl _ (by simp only [List.map_toArray, List.map_cons, List.map_nil]; rfl) Try.func63 (by kernel_rfl) (by kernel_rfl) w') (fun w' hC => (Rg.rsubB_any s.slot w' OK.out.slot).mono fun e w'' h => ⟨h.1, below_step hC hC.size h.2⟩) ?_
  simp only [Act.put, List.setIfInBounds_toArray, List.set_cons_zero, List.set_cons_succ]
  refine q_value 16 rfl (.bool false) (by kernel_rfl) (fun w' _ => cmp_neq _ _ .u32 (by kernel_rfl) _ _ rfl .u32 (s.last : Int) ((s.slot / 3 : Nat) : Int) rfl rfl _ B2.out w') ?_
  simp only [Act.put, List.setIfInBounds_toArray, List.set_cons_zero, List.set_cons_succ]
  refine q_value 17 rfl (.bool false) (by kernel_rfl) (fun w' _ => by kernel_rfl) ?_
  simp only [Act.put, List.setIfInBounds_toArray, List.set_cons_zero, List.set_cons_succ]
  refine wpQuiet_nil ?_
  intro w2 hC
  have bel2 : Below w.heap.size w w2 := below_step bel1 bel1.size hC
  have HR2 := Lib.hid (HR.out.old hC)
  clear hC bel1 HR
  have HR := HR2
  have x97 : w2.cell? ⟨S, 97, none⟩ = some (.int .u32 (s.len : Int)) := HR.out.cell (sc_len OK.out)
  have x96 : w2.cell? ⟨S, 96, none⟩ = some (.int .u32 (s.slot : Int)) := HR.out.cell (sc_slot OK.out)
  have x362 : w2.cell? ⟨S, 362, none⟩ = some (.int .u32 (s.next.len : Int)) := HR.out.cell (sc_next OK.out)
  go_wp2_with fail
  clear x97 x96 x362 b3 b4
  refine wp_region_quiet (C := fun w' => Below w2.heap.size w2 w') (by kernel_rfl) (by kernel_rfl) ((Below.refl _ _).drew) ?_
  rw [List.toList_toArray]
  refine q_value 31 rfl (.pointer (some ⟨S, 98, none⟩)) (by kernel_rfl) (fun w' _ => by kernel_rfl) ?_
  simp only [Act.put, List.setIfInBounds_toArray, List.set_cons_zero, List.set_cons_succ]
  refine q_value 32 rfl (num32 s.count) (by kernel_rfl) (fun w' hC => run_op_load1 _ _ rfl _ Try.underlying22 rfl ⟨S, 98, none⟩ rfl _ ((HR.out.old hC).cell (sc_count OK.out))) ?_
  simp only [Act.put, List.setIfInBounds_toArray, List.set_cons_zero, List.set_cons_succ]
  refine q_value 33 rfl (.pointer (some ⟨S, 96, none⟩)) (by kernel_rfl) (fun w' _ => by kernel_rfl) ?_
  simp only [Act.put, List.setIfInBounds_toArray, List.set_cons_zero, List.set_cons_succ]
  refine q_value 34 rfl (num32 s.slot) (by kernel_rfl) (fun w' hC => run_op_load1 _ _ rfl _ Try.underlying22 rfl ⟨S, 96, none⟩ rfl _ ((HR.out.old hC).cell (sc_slot OK.out))) ?_
  simp only [Act.put, List.setIfInBounds_toArray, List.set_cons_zero, List.set_cons_succ]
  refine q_call 35 rfl (num32 (s.slot / 24)) 64 #[num32 s.slot] (by kernel_rfl) (fun w' _ => run_op_call _ _ _ rfl _ (by simp only [List.map_toArray, List.map_cons, List.map_nil]; rfl) Try.func64 (by kernel_rfl) (by kernel_rfl) w') (fun w' hC => (Slot.repoch_nat s.slot w' OK.out.slot).mono fun e w'' h => ⟨h.1, h.2 ▸ hC⟩) ?_
  simp only [Act.put, List.setIfInBounds_toArray, List.set_cons_zero, List.set_cons_succ]
  refine q_value 36 rfl (.bool false) (by kernel_rfl) (fun w' _ => cmp_gtr _ _ _ _ rfl .u32 (s.count : Int) ((s.slot / 24 : Nat) : Int) rfl rfl _ B4.out w') ?_
  simp only [Act.put, List.setIfInBounds_toArray, List.set_cons_zero, List.set_cons_succ]
  refine q_value 37 rfl (.bool false) (by kernel_rfl) (fun w' _ => by kernel_rfl) ?_
  simp only [Act.put, List.setIfInBounds_toArray, List.set_cons_zero, List.set_cons_succ]
  refine q_value 38 rfl (.pointer (some ⟨S, 98, none⟩)) (by kernel_rfl) (fun w' _ => by kernel_rfl) ?_
  simp only [Act.put, List.setIfInBounds_toArray, List.set_cons_zero, List.set_cons_succ]
  refine q_value 39 rfl (num32 s.count) (by kernel_rfl) (fun w' hC => run_op_load1 _ _ rfl _ Try.underlying22 rfl ⟨S, 98, none⟩ rfl _ ((HR.out.old hC).cell (sc_count OK.out))) ?_
  simp only [Act.put, List.setIfInBounds_toArray, List.set_cons_zero, List.set_cons_succ]
  refine q_value 40 rfl (.pointer (some ⟨S, 97, none⟩)) (by kernel_rfl) (fun w' _ => by kernel_rfl) ?_
  simp only [Act.put, List.setIfInBounds_toArray, List.set_cons_zero, List.set_cons_succ]
  refine q_value 41 rfl (num32 s.len) (by kernel_rfl) (fun w' hC => run_op_load1 _ _ rfl _ Try.underlying22 rfl ⟨S, 97, none⟩ rfl _ ((HR.out.old hC).cell (sc_len OK.out))) ?_
  simp only [Act.put, List.setIfInBounds_toArray, List.set_cons_zero, List.set_cons_succ]
  refine q_value 42 rfl (.bool false) (by kernel_rfl) (fun w' _ => cmp_geq _ _ _ _ rfl .u32 (s.count : Int) (s.len : Int) rfl rfl _ B5.out w') ?_
  simp only [Act.put, List.setIfInBounds_toArray, List.set_cons_zero, List.set_cons_succ]
  refine q_value 43 rfl (.bool false) (by kernel_rfl) (fun w' _ => by kernel_rfl) ?_
  simp only [Act.put, List.setIfInBounds_toArray, List.set_cons_zero, List.set_cons_succ]
  refine wpQuiet_nil ?_
  intro w3 hC
  have bel3 : Below w.heap.size w w3 := below_step bel2 bel2.size hC
  have HR3 := Lib.hid (HR.out.old hC)
  clear hC bel2 HR HR2
  have HR := HR3
  have x97 : w3.cell? ⟨S, 97, none⟩ = some (.int .u32 (s.len : Int)) := HR.out.cell (sc_len OK.out)
  have x96 : w3.cell? ⟨S, 96, none⟩ = some (.int .u32 (s.slot : Int)) := HR.out.cell (sc_slot OK.out)
  have x362 : w3.cell? ⟨S, 362, none⟩ = some (.int .u32 (s.next.len : Int)) := HR.out.cell (sc_next OK.out)
  go_wp2_with fail
  refine (CPL.out w3).mono ?_
  rintro e w4 ⟨rfl, rfl⟩
  have hpl : s.slot % 24 < 24 := Nat.mod_lt _ (by decide)
  obtain ⟨m, hm⟩ : ∃ m, m = s.slot % 24 := ⟨_, rfl⟩
  rw [← hm] at b9 hpl ⊢
  clear hm
  unfold num32
  go_wp2_with fail
  go_ret
  exact ⟨rfl, bel3⟩
theorem rright_any (s : Sta) (w : World) (ok : s.Ok) : Calls Try.prog 36 #[.agg (scs s).toArray] w fun e w' => e = .returned (.bool (decide (SRt s))) ∧ Below w.heap.size w w' := by
  by_cases c1 : Wn.WRt s.min s.last s.counts
  case neg => rw [decide_eq_false (show ¬ SRt s from fun h => c1 h.1)]; exact rr_no1 s w ok c1
  by_cases c2 : s.last = s.slot / 3
  case neg => rw [decide_eq_false (show ¬ SRt s from fun h => c2 h.2.1)]; exact rr_no2 s w ok c1 c2
  by_cases c3 : 1 ≤ s.len
  case neg => rw [decide_eq_false (show ¬ SRt s from fun h => c3 h.2.2.1.1)]; exact rr_no3 s w ok c1 c2 c3
  by_cases c4 : s.len ≤ s.slot + 1
  case neg => rw [decide_eq_false (show ¬ SRt s from fun h => c4 h.2.2.1.2)]; exact rr_no4 s w ok c1 c2 c3 c4
  by_cases c5 : s.count ≤ s.slot / 24
  case neg => rw [decide_eq_false (show ¬ SRt s from fun h => c5 h.2.2.2.1)]; exact rr_no5 s w ok c1 c2 c3 c4 c5
  by_cases c6 : s.count < s.len
  case neg => rw [decide_eq_false (show ¬ SRt s from fun h => c6 h.2.2.2.2.1)]; exact rr_no6 s w ok c1 c2 c3 c4 c5 c6
  by_cases c7 : 1 ≤ s.next.len
  case neg => rw [decide_eq_false (show ¬ SRt s from fun h => c7 h.2.2.2.2.2.1.1)]; exact rr_no7 s w ok c1 c2 c3 c4 c5 c6 c7
  by_cases c8 : s.next.len ≤ s.len
  case neg => rw [decide_eq_false (show ¬ SRt s from fun h => c8 h.2.2.2.2.2.2)]; exact rr_no8 s w ok c1 c2 c3 c4 c5 c6 c7 c8
  by_cases c9 : s.next.len ≤ s.slot % 24 + 1
  case neg => rw [decide_eq_false (show ¬ SRt s from fun h => c9 h.2.2.2.2.2.1.2)]; exact rr_no9 s w ok c1 c2 c3 c4 c5 c6 c7 c8 c9
  rw [decide_eq_true (show SRt s from ⟨c1, c2, ⟨c3, c4⟩, c5, c6, ⟨c7, c9⟩, c8⟩)]
  exact rr_all s w ok c1 c2 c3 c4 c5 c6 c7 c8 c9
end Go.Proofs.Ytghogoijjaiccaa.Sa
