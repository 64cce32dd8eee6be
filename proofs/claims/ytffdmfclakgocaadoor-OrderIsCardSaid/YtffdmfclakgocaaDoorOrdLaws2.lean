/-
  The walk of layer 12's statement OrderIs, out of the contracts: it returns true, and changes nothing that was there. Over this seat's translation.
-/
import Derived.Test.YtffdmfclakgocaaDoorOrdAwake
namespace Go.Proofs.YtffdmfclakgocaaDoor.Od
open Go.ChangeShapes Go.WideShapes Go.ChangeAt Go.RowKit Go.Proofs.YtffdmfclakgocaaDoor.Mem Go.Proofs.YtffdmfclakgocaaDoor.Bt Go.Proofs.YtffdmfclakgocaaDoor.Sl
open Go.Proofs.YtffdmfclakgocaaDoor.Ep (H32 zh zh_ok num32 Has h_len one_app one_num szH zH fitH allH)
open Go.Proofs.YtffdmfclakgocaaDoor.Sha (ks)
open Go.Proofs.YtffdmfclakgocaaDoor.Sa (Sta scs digS digS_ok sz_sta sz_rsta h_drw h_lngth)
set_option linter.unusedVariables false
set_option linter.unusedSimpArgs false

/-- What three numbers' comparisons may be. -/
def Three (x x2 y z : Int) : Prop := (x = -1 ∧ x2 = 1 ∧ y = -1 ∧ z = -1) ∨ (x = -1 ∧ x2 = 1 ∧ y = 0 ∧ z = -1) ∨ (x = -1 ∧ x2 = 1 ∧ y = 1 ∧ z = -1) ∨ (x = -1 ∧ x2 = 1 ∧ y = 1 ∧ z = 0) ∨ (x = -1 ∧ x2 = 1 ∧ y = 1 ∧ z = 1) ∨ (x = 0 ∧ x2 = 0 ∧ y = -1 ∧ z = -1) ∨ (x = 0 ∧ x2 = 0 ∧ y = 0 ∧ z = 0) ∨ (x = 0 ∧ x2 = 0 ∧ y = 1 ∧ z = 1) ∨ (x = 1 ∧ x2 = -1 ∧ y = -1 ∧ z = -1) ∨ (x = 1 ∧ x2 = -1 ∧ y = -1 ∧ z = 0) ∨ (x = 1 ∧ x2 = -1 ∧ y = -1 ∧ z = 1) ∨ (x = 1 ∧ x2 = -1 ∧ y = 0 ∧ z = 1) ∨ (x = 1 ∧ x2 = -1 ∧ y = 1 ∧ z = 1)
theorem three (m n o : Nat) : Three (cmpN m n) (cmpN n m) (cmpN n o) (cmpN m o) := by
  unfold Three
  rcases Nat.lt_trichotomy m n with h1 | h1 | h1 <;> rcases Nat.lt_trichotomy n o with h2 | h2 | h2 <;> rcases Nat.lt_trichotomy m o with h3 | h3 | h3
  · rw [cmpN_lt h1, cmpN_gt h1, cmpN_lt h2, cmpN_lt h3]; decide
  · omega
  · omega
  · rw [cmpN_lt h1, cmpN_gt h1, cmpN_zero.2 h2, cmpN_lt h3]; decide
  · omega
  · omega
  · rw [cmpN_lt h1, cmpN_gt h1, cmpN_gt h2, cmpN_lt h3]; decide
  · rw [cmpN_lt h1, cmpN_gt h1, cmpN_gt h2, cmpN_zero.2 h3]; decide
  · rw [cmpN_lt h1, cmpN_gt h1, cmpN_gt h2, cmpN_gt h3]; decide
  · rw [cmpN_zero.2 h1, cmpN_zero.2 h1.symm, cmpN_lt h2, cmpN_lt h3]; decide
  · omega
  · omega
  · omega
  · rw [cmpN_zero.2 h1, cmpN_zero.2 h1.symm, cmpN_zero.2 h2, cmpN_zero.2 h3]; decide
  · omega
  · omega
  · omega
  · rw [cmpN_zero.2 h1, cmpN_zero.2 h1.symm, cmpN_gt h2, cmpN_gt h3]; decide
  · rw [cmpN_gt h1, cmpN_lt h1, cmpN_lt h2, cmpN_lt h3]; decide
  · rw [cmpN_gt h1, cmpN_lt h1, cmpN_lt h2, cmpN_zero.2 h3]; decide
  · rw [cmpN_gt h1, cmpN_lt h1, cmpN_lt h2, cmpN_gt h3]; decide
  · omega
  · omega
  · rw [cmpN_gt h1, cmpN_lt h1, cmpN_zero.2 h2, cmpN_gt h3]; decide
  · omega
  · omega
  · rw [cmpN_gt h1, cmpN_lt h1, cmpN_gt h2, cmpN_gt h3]; decide
set_option maxHeartbeats 4000000 in
set_option maxRecDepth 100000 in
theorem orderIs_any (x y z : Ky) (w : World) (kx : x.Ok) (ky : y.Ok) (kz : z.Ok) (hk : w.rangeAt 1 0 (u32s ks)) :
    Calls Tryd.prog 4 #[.agg (kcs x).toArray, .agg (kcs y).toArray, .agg (kcs z).toArray] w fun e w' => e = .returned (.bool true) ∧ Below w.heap.size w w' := by
  have hk1 : 1 < w.heap.size := range_lt hk (by simp [u32s, ks])
  have HKW : Hid (∀ w', Below w.heap.size w w' → w'.rangeAt 1 0 (u32s ks)) := Lib.hid fun w' hb => range_block hk (hb.block _ hk1)
  have KX := Lib.hid kx; have KY := Lib.hid ky; have KZ := Lib.hid kz
  have CA := Lib.hid (fun w0 h => awake_any w0 h)
  have TRI := Lib.hid (three (kval x) (kval y) (kval z))
  have EQ := Lib.hid (kcmp_zero kx ky)
  have C1 := Lib.hid (fun w0 => compare_any x y w0 kx ky)
  have C2 := Lib.hid (fun w0 => compare_any y x w0 ky kx)
  have C3 := Lib.hid (fun w0 => compare_any y z w0 ky kz)
  have C4 := Lib.hid (fun w0 => compare_any x z w0 kx kz)
  change Hid (Three (kcmp x y) (kcmp y x) (kcmp y z) (kcmp x z)) at TRI
  generalize kcmp x y = ab at C1 TRI EQ
  generalize kcmp y x = ba at C2 TRI
  generalize kcmp y z = bc at C3 TRI
  generalize kcmp x z = ac at C4 TRI
  clear hk hk1 kx ky kz
  go_enter Tryd.func4, Tryd.ntmps4
  go_wp2_with (first
    | ((with_reducible refine at_slot 3 ?_); (refine arm_box (o := ⟨some 3, _, _, _, _, _⟩) rfl _ _ rfl (kcs x) rfl ?_); intro A v1 Ae hv1 nv1)
    | ((with_reducible refine at_slot 4 ?_); (refine arm_box (o := ⟨some 4, _, _, _, _, _⟩) rfl _ _ rfl (kcs y) rfl ?_); intro B v2 Be hv2 nv2)
    | ((with_reducible refine at_slot 5 ?_); (refine arm_box (o := ⟨some 5, _, _, _, _, _⟩) rfl _ _ rfl (kcs z) rfl ?_); intro C v3 Ce hv3 nv3))
  have q0 := Ae.out
  have q1 := nv1.size
  have q2 := Be.out
  have q3 := nv2.size
  have q4 := Ce.out
  have q5 := nv3.size
  have lA : w.heap.size ≤ A := by omega
  have lB : w.heap.size ≤ B := by omega
  have nAB : A ≠ B := by omega
  have nBA : B ≠ A := by omega
  have lC : w.heap.size ≤ C := by omega
  have nAC : A ≠ C := by omega
  have nCA : C ≠ A := by omega
  have nBC : B ≠ C := by omega
  have nCB : C ≠ B := by omega
  have rA4 : Row v3 A 37 (kcs x) := ((hv1.old nv2.below).old nv3.below)
  have rB4 : Row v3 B 37 (kcs y) := (hv2.old nv3.below)
  have rC4 : Row v3 C 37 (kcs z) := hv3
  have bel4 : Below w.heap.size w v3 := (below_step (below_step (below_step (Below.refl _ _) (by omega) nv1.below) (by omega) nv2.below) (by omega) nv3.below)
  clear q0 q1 q2 q3 q4 q5 Ae hv1 nv1 Be hv2 nv2 Ce hv3 nv3
  refine (CA.out _ (HKW.out _ bel4)).mono ?_
  rintro e y5 ⟨rfl, hB⟩
  have rA5 : Row y5 A 37 (kcs x) := rA4.old hB
  have rB5 : Row y5 B 37 (kcs y) := rB4.old hB
  have rC5 : Row y5 C 37 (kcs z) := rC4.old hB
  have bel5 : Below w.heap.size w y5 := below_step bel4 bel4.size hB
  clear hB rA4 rB4 rC4 bel4
  go_wp2_with fail
  refine wp_region_quiet (C := fun w' => Below y5.heap.size y5 w') (by kernel_rfl) (by kernel_rfl) ((Below.refl _ _).drew) ?_
  rw [List.toList_toArray]
  refine q_value 13 rfl (.agg (kcs x).toArray) (by kernel_rfl) (fun w' hC => run_op_load _ _ rfl A 0 rfl (kcs x) ((Has.refl _).range (rA5.old hC)) (sz_key KX.out)) ?_
  simp only [Act.put, List.setIfInBounds_toArray, List.set_cons_zero, List.set_cons_succ]
  refine q_value 14 rfl (.agg (kcs y).toArray) (by kernel_rfl) (fun w' hC => run_op_load _ _ rfl B 0 rfl (kcs y) ((Has.refl _).range (rB5.old hC)) (sz_key KY.out)) ?_
  simp only [Act.put, List.setIfInBounds_toArray, List.set_cons_zero, List.set_cons_succ]
  refine q_call 15 rfl (.int .i64 ab) 10 #[.agg (kcs x).toArray, .agg (kcs y).toArray] (by kernel_rfl) (fun w' _ => run_op_call _ _ _ rfl _ (by simp only [List.map_toArray, List.map_cons, List.map_nil]; rfl) Tryd.func10 (by kernel_rfl) (by kernel_rfl) w') (fun w' hC => (C1.out w').mono fun e w'' h => ⟨h.1, below_step hC hC.size h.2⟩) ?_
  simp only [Act.put, List.setIfInBounds_toArray, List.set_cons_zero, List.set_cons_succ]
  refine q_value 16 rfl (.agg (kcs y).toArray) (by kernel_rfl) (fun w' hC => run_op_load _ _ rfl B 0 rfl (kcs y) ((Has.refl _).range (rB5.old hC)) (sz_key KY.out)) ?_
  simp only [Act.put, List.setIfInBounds_toArray, List.set_cons_zero, List.set_cons_succ]
  refine q_value 17 rfl (.agg (kcs x).toArray) (by kernel_rfl) (fun w' hC => run_op_load _ _ rfl A 0 rfl (kcs x) ((Has.refl _).range (rA5.old hC)) (sz_key KX.out)) ?_
  simp only [Act.put, List.setIfInBounds_toArray, List.set_cons_zero, List.set_cons_succ]
  refine q_call 18 rfl (.int .i64 ba) 10 #[.agg (kcs y).toArray, .agg (kcs x).toArray] (by kernel_rfl) (fun w' _ => run_op_call _ _ _ rfl _ (by simp only [List.map_toArray, List.map_cons, List.map_nil]; rfl) Tryd.func10 (by kernel_rfl) (by kernel_rfl) w') (fun w' hC => (C2.out w').mono fun e w'' h => ⟨h.1, below_step hC hC.size h.2⟩) ?_
  simp only [Act.put, List.setIfInBounds_toArray, List.set_cons_zero, List.set_cons_succ]
  refine q_value 19 rfl (.agg (kcs y).toArray) (by kernel_rfl) (fun w' hC => run_op_load _ _ rfl B 0 rfl (kcs y) ((Has.refl _).range (rB5.old hC)) (sz_key KY.out)) ?_
  simp only [Act.put, List.setIfInBounds_toArray, List.set_cons_zero, List.set_cons_succ]
  refine q_value 20 rfl (.agg (kcs z).toArray) (by kernel_rfl) (fun w' hC => run_op_load _ _ rfl C 0 rfl (kcs z) ((Has.refl _).range (rC5.old hC)) (sz_key KZ.out)) ?_
  simp only [Act.put, List.setIfInBounds_toArray, List.set_cons_zero, List.set_cons_succ]
  refine q_call 21 rfl (.int .i64 bc) 10 #[.agg (kcs y).toArray, .agg (kcs z).toArray] (by kernel_rfl) (fun w' _ => run_op_call _ _ _ rfl _ (by simp only [List.map_toArray, List.map_cons, List.map_nil]; rfl) Tryd.func10 (by kernel_rfl) (by kernel_rfl) w') (fun w' hC => (C3.out w').mono fun e w'' h => ⟨h.1, below_step hC hC.size h.2⟩) ?_
  simp only [Act.put, List.setIfInBounds_toArray, List.set_cons_zero, List.set_cons_succ]
  refine q_value 22 rfl (.agg (kcs x).toArray) (by kernel_rfl) (fun w' hC => run_op_load _ _ rfl A 0 rfl (kcs x) ((Has.refl _).range (rA5.old hC)) (sz_key KX.out)) ?_
  simp only [Act.put, List.setIfInBounds_toArray, List.set_cons_zero, List.set_cons_succ]
  refine q_value 23 rfl (.agg (kcs z).toArray) (by kernel_rfl) (fun w' hC => run_op_load _ _ rfl C 0 rfl (kcs z) ((Has.refl _).range (rC5.old hC)) (sz_key KZ.out)) ?_
  simp only [Act.put, List.setIfInBounds_toArray, List.set_cons_zero, List.set_cons_succ]
  refine q_call 24 rfl (.int .i64 ac) 10 #[.agg (kcs x).toArray, .agg (kcs z).toArray] (by kernel_rfl) (fun w' _ => run_op_call _ _ _ rfl _ (by simp only [List.map_toArray, List.map_cons, List.map_nil]; rfl) Tryd.func10 (by kernel_rfl) (by kernel_rfl) w') (fun w' hC => (C4.out w').mono fun e w'' h => ⟨h.1, below_step hC hC.size h.2⟩) ?_
  simp only [Act.put, List.setIfInBounds_toArray, List.set_cons_zero, List.set_cons_succ]
  refine q_value 7 rfl (.int .i64 ab) (by kernel_rfl) (fun w' _ => by kernel_rfl) ?_
  simp only [Act.put, List.setIfInBounds_toArray, List.set_cons_zero, List.set_cons_succ]
  refine q_value 8 rfl (.int .i64 ba) (by kernel_rfl) (fun w' _ => by kernel_rfl) ?_
  simp only [Act.put, List.setIfInBounds_toArray, List.set_cons_zero, List.set_cons_succ]
  refine q_value 9 rfl (.int .i64 bc) (by kernel_rfl) (fun w' _ => by kernel_rfl) ?_
  simp only [Act.put, List.setIfInBounds_toArray, List.set_cons_zero, List.set_cons_succ]
  refine q_value 10 rfl (.int .i64 ac) (by kernel_rfl) (fun w' _ => by kernel_rfl) ?_
  simp only [Act.put, List.setIfInBounds_toArray, List.set_cons_zero, List.set_cons_succ]
  refine wpQuiet_nil ?_
  intro w2 hC
  have rA := Lib.hid (rA5.old hC); have rB := Lib.hid (rB5.old hC)
  have bel2 := below_step bel5 bel5.size hC
  clear C1 C2 C3 C4 CA HKW hC bel5 rA5 rB5 rC5 nAB nBA nAC nCA nBC nCB
  rcases TRI.out with ⟨rfl, rfl, rfl, rfl⟩ | ⟨rfl, rfl, rfl, rfl⟩ | ⟨rfl, rfl, rfl, rfl⟩ | ⟨rfl, rfl, rfl, rfl⟩ | ⟨rfl, rfl, rfl, rfl⟩ | ⟨rfl, rfl, rfl, rfl⟩ | ⟨rfl, rfl, rfl, rfl⟩ | ⟨rfl, rfl, rfl, rfl⟩ | ⟨rfl, rfl, rfl, rfl⟩ | ⟨rfl, rfl, rfl, rfl⟩ | ⟨rfl, rfl, rfl, rfl⟩ | ⟨rfl, rfl, rfl, rfl⟩ | ⟨rfl, rfl, rfl, rfl⟩
  · clear TRI
    have E : Hid (¬ x = y) := Lib.hid (fun h => absurd (EQ.out.2 h) (by decide)); clear EQ
    go_wp2_with (first
      | ((with_reducible refine at_slot 32 ?_); (refine arm_want (.agg (kcs x).toArray) 32 rfl (by kernel_rfl) (run_op_load _ _ rfl A 0 rfl (kcs x) ((Has.refl _).range rA.out) (sz_key KX.out)) ?_))
      | ((with_reducible refine at_slot 33 ?_); (refine arm_want (.agg (kcs y).toArray) 33 rfl (by kernel_rfl) (run_op_load _ _ rfl B 0 rfl (kcs y) ((Has.refl _).range rB.out) (sz_key KY.out)) ?_))
      | ((with_reducible refine at_slot 34 ?_); (refine arm_want (.bool false) 34 rfl (by kernel_rfl) (run_op_eqlK KX.out KY.out _ _ _ rfl rfl rfl false ⟨fun h => absurd h Bool.false_ne_true, fun h => absurd h (show ¬ x = y from E.out)⟩ _) ?_)))
    go_ret
    exact ⟨rfl, bel2⟩
  · clear TRI
    have E : Hid (¬ x = y) := Lib.hid (fun h => absurd (EQ.out.2 h) (by decide)); clear EQ
    go_wp2_with (first
      | ((with_reducible refine at_slot 32 ?_); (refine arm_want (.agg (kcs x).toArray) 32 rfl (by kernel_rfl) (run_op_load _ _ rfl A 0 rfl (kcs x) ((Has.refl _).range rA.out) (sz_key KX.out)) ?_))
      | ((with_reducible refine at_slot 33 ?_); (refine arm_want (.agg (kcs y).toArray) 33 rfl (by kernel_rfl) (run_op_load _ _ rfl B 0 rfl (kcs y) ((Has.refl _).range rB.out) (sz_key KY.out)) ?_))
      | ((with_reducible refine at_slot 34 ?_); (refine arm_want (.bool false) 34 rfl (by kernel_rfl) (run_op_eqlK KX.out KY.out _ _ _ rfl rfl rfl false ⟨fun h => absurd h Bool.false_ne_true, fun h => absurd h (show ¬ x = y from E.out)⟩ _) ?_)))
    go_ret
    exact ⟨rfl, bel2⟩
  · clear TRI
    have E : Hid (¬ x = y) := Lib.hid (fun h => absurd (EQ.out.2 h) (by decide)); clear EQ
    go_wp2_with (first
      | ((with_reducible refine at_slot 32 ?_); (refine arm_want (.agg (kcs x).toArray) 32 rfl (by kernel_rfl) (run_op_load _ _ rfl A 0 rfl (kcs x) ((Has.refl _).range rA.out) (sz_key KX.out)) ?_))
      | ((with_reducible refine at_slot 33 ?_); (refine arm_want (.agg (kcs y).toArray) 33 rfl (by kernel_rfl) (run_op_load _ _ rfl B 0 rfl (kcs y) ((Has.refl _).range rB.out) (sz_key KY.out)) ?_))
      | ((with_reducible refine at_slot 34 ?_); (refine arm_want (.bool false) 34 rfl (by kernel_rfl) (run_op_eqlK KX.out KY.out _ _ _ rfl rfl rfl false ⟨fun h => absurd h Bool.false_ne_true, fun h => absurd h (show ¬ x = y from E.out)⟩ _) ?_)))
    go_ret
    exact ⟨rfl, bel2⟩
  · clear TRI
    have E : Hid (¬ x = y) := Lib.hid (fun h => absurd (EQ.out.2 h) (by decide)); clear EQ
    go_wp2_with (first
      | ((with_reducible refine at_slot 32 ?_); (refine arm_want (.agg (kcs x).toArray) 32 rfl (by kernel_rfl) (run_op_load _ _ rfl A 0 rfl (kcs x) ((Has.refl _).range rA.out) (sz_key KX.out)) ?_))
      | ((with_reducible refine at_slot 33 ?_); (refine arm_want (.agg (kcs y).toArray) 33 rfl (by kernel_rfl) (run_op_load _ _ rfl B 0 rfl (kcs y) ((Has.refl _).range rB.out) (sz_key KY.out)) ?_))
      | ((with_reducible refine at_slot 34 ?_); (refine arm_want (.bool false) 34 rfl (by kernel_rfl) (run_op_eqlK KX.out KY.out _ _ _ rfl rfl rfl false ⟨fun h => absurd h Bool.false_ne_true, fun h => absurd h (show ¬ x = y from E.out)⟩ _) ?_)))
    go_ret
    exact ⟨rfl, bel2⟩
  · clear TRI
    have E : Hid (¬ x = y) := Lib.hid (fun h => absurd (EQ.out.2 h) (by decide)); clear EQ
    go_wp2_with (first
      | ((with_reducible refine at_slot 32 ?_); (refine arm_want (.agg (kcs x).toArray) 32 rfl (by kernel_rfl) (run_op_load _ _ rfl A 0 rfl (kcs x) ((Has.refl _).range rA.out) (sz_key KX.out)) ?_))
      | ((with_reducible refine at_slot 33 ?_); (refine arm_want (.agg (kcs y).toArray) 33 rfl (by kernel_rfl) (run_op_load _ _ rfl B 0 rfl (kcs y) ((Has.refl _).range rB.out) (sz_key KY.out)) ?_))
      | ((with_reducible refine at_slot 34 ?_); (refine arm_want (.bool false) 34 rfl (by kernel_rfl) (run_op_eqlK KX.out KY.out _ _ _ rfl rfl rfl false ⟨fun h => absurd h Bool.false_ne_true, fun h => absurd h (show ¬ x = y from E.out)⟩ _) ?_)))
    go_ret
    exact ⟨rfl, bel2⟩
  · clear TRI
    have E := Lib.hid (EQ.out.1 rfl); clear EQ
    go_wp2_with (first
      | ((with_reducible refine at_slot 32 ?_); (refine arm_want (.agg (kcs x).toArray) 32 rfl (by kernel_rfl) (run_op_load _ _ rfl A 0 rfl (kcs x) ((Has.refl _).range rA.out) (sz_key KX.out)) ?_))
      | ((with_reducible refine at_slot 33 ?_); (refine arm_want (.agg (kcs y).toArray) 33 rfl (by kernel_rfl) (run_op_load _ _ rfl B 0 rfl (kcs y) ((Has.refl _).range rB.out) (sz_key KY.out)) ?_))
      | ((with_reducible refine at_slot 34 ?_); (refine arm_want (.bool true) 34 rfl (by kernel_rfl) (run_op_eqlK KX.out KY.out _ _ _ rfl rfl rfl true ⟨fun _ => E.out, fun _ => rfl⟩ _) ?_)))
    go_ret
    exact ⟨rfl, bel2⟩
  · clear TRI
    have E := Lib.hid (EQ.out.1 rfl); clear EQ
    go_wp2_with (first
      | ((with_reducible refine at_slot 32 ?_); (refine arm_want (.agg (kcs x).toArray) 32 rfl (by kernel_rfl) (run_op_load _ _ rfl A 0 rfl (kcs x) ((Has.refl _).range rA.out) (sz_key KX.out)) ?_))
      | ((with_reducible refine at_slot 33 ?_); (refine arm_want (.agg (kcs y).toArray) 33 rfl (by kernel_rfl) (run_op_load _ _ rfl B 0 rfl (kcs y) ((Has.refl _).range rB.out) (sz_key KY.out)) ?_))
      | ((with_reducible refine at_slot 34 ?_); (refine arm_want (.bool true) 34 rfl (by kernel_rfl) (run_op_eqlK KX.out KY.out _ _ _ rfl rfl rfl true ⟨fun _ => E.out, fun _ => rfl⟩ _) ?_)))
    go_ret
    exact ⟨rfl, bel2⟩
  · clear TRI
    have E := Lib.hid (EQ.out.1 rfl); clear EQ
    go_wp2_with (first
      | ((with_reducible refine at_slot 32 ?_); (refine arm_want (.agg (kcs x).toArray) 32 rfl (by kernel_rfl) (run_op_load _ _ rfl A 0 rfl (kcs x) ((Has.refl _).range rA.out) (sz_key KX.out)) ?_))
      | ((with_reducible refine at_slot 33 ?_); (refine arm_want (.agg (kcs y).toArray) 33 rfl (by kernel_rfl) (run_op_load _ _ rfl B 0 rfl (kcs y) ((Has.refl _).range rB.out) (sz_key KY.out)) ?_))
      | ((with_reducible refine at_slot 34 ?_); (refine arm_want (.bool true) 34 rfl (by kernel_rfl) (run_op_eqlK KX.out KY.out _ _ _ rfl rfl rfl true ⟨fun _ => E.out, fun _ => rfl⟩ _) ?_)))
    go_ret
    exact ⟨rfl, bel2⟩
  · clear TRI
    have E : Hid (¬ x = y) := Lib.hid (fun h => absurd (EQ.out.2 h) (by decide)); clear EQ
    go_wp2_with (first
      | ((with_reducible refine at_slot 32 ?_); (refine arm_want (.agg (kcs x).toArray) 32 rfl (by kernel_rfl) (run_op_load _ _ rfl A 0 rfl (kcs x) ((Has.refl _).range rA.out) (sz_key KX.out)) ?_))
      | ((with_reducible refine at_slot 33 ?_); (refine arm_want (.agg (kcs y).toArray) 33 rfl (by kernel_rfl) (run_op_load _ _ rfl B 0 rfl (kcs y) ((Has.refl _).range rB.out) (sz_key KY.out)) ?_))
      | ((with_reducible refine at_slot 34 ?_); (refine arm_want (.bool false) 34 rfl (by kernel_rfl) (run_op_eqlK KX.out KY.out _ _ _ rfl rfl rfl false ⟨fun h => absurd h Bool.false_ne_true, fun h => absurd h (show ¬ x = y from E.out)⟩ _) ?_)))
    go_ret
    exact ⟨rfl, bel2⟩
  · clear TRI
    have E : Hid (¬ x = y) := Lib.hid (fun h => absurd (EQ.out.2 h) (by decide)); clear EQ
    go_wp2_with (first
      | ((with_reducible refine at_slot 32 ?_); (refine arm_want (.agg (kcs x).toArray) 32 rfl (by kernel_rfl) (run_op_load _ _ rfl A 0 rfl (kcs x) ((Has.refl _).range rA.out) (sz_key KX.out)) ?_))
      | ((with_reducible refine at_slot 33 ?_); (refine arm_want (.agg (kcs y).toArray) 33 rfl (by kernel_rfl) (run_op_load _ _ rfl B 0 rfl (kcs y) ((Has.refl _).range rB.out) (sz_key KY.out)) ?_))
      | ((with_reducible refine at_slot 34 ?_); (refine arm_want (.bool false) 34 rfl (by kernel_rfl) (run_op_eqlK KX.out KY.out _ _ _ rfl rfl rfl false ⟨fun h => absurd h Bool.false_ne_true, fun h => absurd h (show ¬ x = y from E.out)⟩ _) ?_)))
    go_ret
    exact ⟨rfl, bel2⟩
  · clear TRI
    have E : Hid (¬ x = y) := Lib.hid (fun h => absurd (EQ.out.2 h) (by decide)); clear EQ
    go_wp2_with (first
      | ((with_reducible refine at_slot 32 ?_); (refine arm_want (.agg (kcs x).toArray) 32 rfl (by kernel_rfl) (run_op_load _ _ rfl A 0 rfl (kcs x) ((Has.refl _).range rA.out) (sz_key KX.out)) ?_))
      | ((with_reducible refine at_slot 33 ?_); (refine arm_want (.agg (kcs y).toArray) 33 rfl (by kernel_rfl) (run_op_load _ _ rfl B 0 rfl (kcs y) ((Has.refl _).range rB.out) (sz_key KY.out)) ?_))
      | ((with_reducible refine at_slot 34 ?_); (refine arm_want (.bool false) 34 rfl (by kernel_rfl) (run_op_eqlK KX.out KY.out _ _ _ rfl rfl rfl false ⟨fun h => absurd h Bool.false_ne_true, fun h => absurd h (show ¬ x = y from E.out)⟩ _) ?_)))
    go_ret
    exact ⟨rfl, bel2⟩
  · clear TRI
    have E : Hid (¬ x = y) := Lib.hid (fun h => absurd (EQ.out.2 h) (by decide)); clear EQ
    go_wp2_with (first
      | ((with_reducible refine at_slot 32 ?_); (refine arm_want (.agg (kcs x).toArray) 32 rfl (by kernel_rfl) (run_op_load _ _ rfl A 0 rfl (kcs x) ((Has.refl _).range rA.out) (sz_key KX.out)) ?_))
      | ((with_reducible refine at_slot 33 ?_); (refine arm_want (.agg (kcs y).toArray) 33 rfl (by kernel_rfl) (run_op_load _ _ rfl B 0 rfl (kcs y) ((Has.refl _).range rB.out) (sz_key KY.out)) ?_))
      | ((with_reducible refine at_slot 34 ?_); (refine arm_want (.bool false) 34 rfl (by kernel_rfl) (run_op_eqlK KX.out KY.out _ _ _ rfl rfl rfl false ⟨fun h => absurd h Bool.false_ne_true, fun h => absurd h (show ¬ x = y from E.out)⟩ _) ?_)))
    go_ret
    exact ⟨rfl, bel2⟩
  · clear TRI
    have E : Hid (¬ x = y) := Lib.hid (fun h => absurd (EQ.out.2 h) (by decide)); clear EQ
    go_wp2_with (first
      | ((with_reducible refine at_slot 32 ?_); (refine arm_want (.agg (kcs x).toArray) 32 rfl (by kernel_rfl) (run_op_load _ _ rfl A 0 rfl (kcs x) ((Has.refl _).range rA.out) (sz_key KX.out)) ?_))
      | ((with_reducible refine at_slot 33 ?_); (refine arm_want (.agg (kcs y).toArray) 33 rfl (by kernel_rfl) (run_op_load _ _ rfl B 0 rfl (kcs y) ((Has.refl _).range rB.out) (sz_key KY.out)) ?_))
      | ((with_reducible refine at_slot 34 ?_); (refine arm_want (.bool false) 34 rfl (by kernel_rfl) (run_op_eqlK KX.out KY.out _ _ _ rfl rfl rfl false ⟨fun h => absurd h Bool.false_ne_true, fun h => absurd h (show ¬ x = y from E.out)⟩ _) ?_)))
    go_ret
    exact ⟨rfl, bel2⟩
end Go.Proofs.YtffdmfclakgocaaDoor.Od
