/-
  The walk of layer 9's statement StateTells over this seat's translation, out of the contracts: it returns true, and changes nothing that was there.
-/
import Derived.Test.YtddnolppjlbibaaDoorStaAwake
import Derived.Test.YtddnolppjlbibaaDoorStaOwn
import Derived.Test.YtddnolppjlbibaaDoorStaRRight
import Derived.Test.YtddnolppjlbibaaDoorStaRHash
namespace Go.Proofs.YtddnolppjlbibaaDoor.Sa
open Go.ChangeShapes Go.WideShapes Go.ChangeAt Go.RowKit Go.Proofs.YtddnolppjlbibaaDoor.Mem Go.Proofs.YtddnolppjlbibaaDoor.Bt Go.Proofs.YtddnolppjlbibaaDoor.Wi Go.Proofs.YtddnolppjlbibaaDoor.Tg Go.Proofs.YtddnolppjlbibaaDoor.Sha Go.Proofs.YtddnolppjlbibaaDoor.Rg
open Go.Proofs.YtddnolppjlbibaaDoor.Ep (H32 zh zh_ok Has szH zH fitH allH)
set_option linter.unusedVariables false
set_option linter.unusedSimpArgs false

set_option maxHeartbeats 4000000 in
set_option maxRecDepth 100000 in
theorem stateTells_any (s : Sta) (x : List Nat) (w : World) (ok : s.Ok) (kx : H32 x) (hk : w.rangeAt 0 0 (u32s ks)) (hk2 : w.rangeAt 1 0 (u32s ks)) :
    Calls Tryd.prog 3 #[.agg (scs s).toArray, .agg (u8s x).toArray] w fun e w' => e = .returned (.bool true) ∧ Below w.heap.size w w' := by
  have hk1 : 0 < w.heap.size := range_lt hk (by simp [u32s, ks])
  have hk12 : 1 < w.heap.size := range_lt hk2 (by simp [u32s, ks])
  have HKW : Hid (∀ w', Below w.heap.size w w' → w'.rangeAt 0 0 (u32s ks)) := Lib.hid fun w' hb => range_block hk (hb.block _ hk1)
  have HKR : Hid (∀ w', Below w.heap.size w w' → w'.rangeAt 1 0 (u32s ks)) := Lib.hid fun w' hb => range_block hk2 (hb.block _ hk12)
  have OK := Lib.hid ok; have KX := Lib.hid kx
  have GK := Lib.hid (gen_ok kx)
  have CA := Lib.hid (awake_any w hk)
  have CG := Lib.hid (fun w0 => sgenesis_any x w0 kx)
  have CG2 := Lib.hid (fun w0 => srgenesis_any x w0 kx)
  obtain ⟨g, hg⟩ : ∃ g, g = genS x := ⟨_, rfl⟩
  rw [← hg] at GK CG CG2
  have CGO := Lib.hid (fun w0 => own_any g w0 GK.out)
  have CO := Lib.hid (fun w0 => own_any s w0 ok)
  have CR := Lib.hid (fun w0 => right_any s w0 ok)
  have CR2 := Lib.hid (fun w0 => rright_any s w0 ok)
  obtain ⟨v, hv⟩ : ∃ v, v = decide (SRt s) := ⟨_, rfl⟩
  rw [← hv] at CR CR2
  have CB := Lib.hid (fun w0 => bytes_any s w0 ok)
  have CB2 := Lib.hid (fun w0 => rbytes_any s w0 ok)
  have CH := Lib.hid (fun w0 h => shash_any s w0 ok h)
  have CH2 := Lib.hid (fun w0 h => rhash_any s w0 ok h)
  have KD := Lib.hid (digS_ok s)
  have HBL := Lib.hid (staB_len ok)
  obtain ⟨dg, hdg⟩ : ∃ dg, dg = digS s := ⟨_, rfl⟩
  rw [← hdg] at CH CH2 KD
  obtain ⟨bs, hbs⟩ : ∃ bs, bs = staB s := ⟨_, rfl⟩
  rw [← hbs] at CB CB2 HBL
  clear hdg hbs hv hg ok kx hk hk2 hk1 hk12
  go_enter Tryd.func3, Tryd.ntmps3
  go_wp2_with (first
    | ((with_reducible refine at_slot 2 ?_); (refine arm_box (o := ⟨some 2, _, _, _, _, _⟩) rfl _ _ rfl (scs s) rfl ?_); intro S w1 Se hw1 nw1)
    | ((with_reducible refine at_slot 3 ?_); (refine arm_box (o := ⟨some 3, _, _, _, _, _⟩) rfl _ _ rfl (u8s x) rfl ?_); intro X w2 Xe hw2 nw2))
  have e1 := Se.out; have e2 := Xe.out; have z1 := nw1.size; have z2 := nw2.size
  have bel2 : Below w.heap.size w w2 := below_step nw1.below (by omega) nw2.below
  have hS2 : Row w2 S 35 (scs s) ∧ Row w2 X 23 (u8s x) := ⟨hw1.old nw2.below, hw2⟩
  clear e1 e2 z1 z2 hw1 hw2 nw1 nw2 Se Xe CA
  refine (awake_any w2 (HKW.out w2 bel2)).mono ?_
  rintro e w3 ⟨rfl, hB3⟩
  have bel3 : Below w.heap.size w w3 := below_step bel2 bel2.size hB3
  have hS3 : Row w3 S 35 (scs s) ∧ Row w3 X 23 (u8s x) := ⟨hS2.1.old hB3, hS2.2.old hB3⟩
  clear hS2 bel2 hB3
  go_wp2_with fail
  refine wp_region_held (S := fun w' => Row w' S 35 (scs s) ∧ Row w' X 23 (u8s x)) (by kernel_rfl) ?_
  change wpAnyH _ _ _ _ _ _ _ _ w3.drew
  have hS0 : Row w3.drew S 35 (scs s) ∧ Row w3.drew X 23 (u8s x) := hS3
  have b0 : Below w.heap.size w w3.drew := bel3.trans ((Below.refl _ _).drew)
  generalize w3.drew = y0 at hS0 b0 ⊢
  clear hS3 bel3
  refine h_take 0 (.agg (u8s x).toArray) rfl 7 rfl (by kernel_rfl) (by kernel_rfl) (by kernel_rfl) (by kernel_rfl) (fun _ _ _ h => h) (fun w' hw => run_op_load _ _ rfl X 0 rfl (u8s x) ((Has.refl _).range hw.2) (szH KX.out)) hS0 ?_
  simp only [Act.put, List.setIfInBounds_toArray, List.set_cons_zero, List.set_cons_succ]
  refine h_take 3 (.agg (u8s x).toArray) rfl 10 rfl (by kernel_rfl) (by kernel_rfl) (by kernel_rfl) (by kernel_rfl) (fun _ _ _ h => h) (fun w' hw => run_op_load _ _ rfl X 0 rfl (u8s x) ((Has.refl _).range hw.2) (szH KX.out)) hS0 ?_
  simp only [Act.put, List.setIfInBounds_toArray, List.set_cons_zero, List.set_cons_succ]
  refine h_one (i := 1) (by kernel_rfl) (o_call rfl 8 rfl (by kernel_rfl) (run_op_call 8 _ _ rfl #[.agg (u8s x).toArray] (by simp only [List.map_toArray, List.map_cons, List.map_nil]; rfl) Tryd.func8 (by kernel_rfl) (by kernel_rfl) _) (CG.out y0) ?_)
  rintro e y1 ⟨rfl, hB⟩
  have hS1 : Row y1 S 35 (scs s) ∧ Row y1 X 23 (u8s x) := ⟨hS0.1.old hB, hS0.2.old hB⟩
  have b1 : Below w.heap.size w y1 := below_step b0 b0.size hB
  refine ⟨_, rfl, hS1, ?_⟩
  clear hS0 b0 hB
  simp only [Act.put, List.setIfInBounds_toArray, List.set_cons_zero, List.set_cons_succ]
  refine h_one (i := 2) (by kernel_rfl) (o_call rfl 9 rfl (by kernel_rfl) (run_op_call 7 _ _ rfl #[.agg (scs g).toArray] (by simp only [List.map_toArray, List.map_cons, List.map_nil]; rfl) Tryd.func7 (by kernel_rfl) (by kernel_rfl) _) (CGO.out y1) ?_)
  rintro e y2 ⟨rfl, hB⟩
  have hS2 : Row y2 S 35 (scs s) ∧ Row y2 X 23 (u8s x) := ⟨hS1.1.old hB, hS1.2.old hB⟩
  have b2 : Below w.heap.size w y2 := below_step b1 b1.size hB
  refine ⟨_, rfl, hS2, ?_⟩
  clear hS1 b1 hB
  simp only [Act.put, List.setIfInBounds_toArray, List.set_cons_zero, List.set_cons_succ]
  refine h_one (i := 4) (by kernel_rfl) (o_call rfl 11 rfl (by kernel_rfl) (run_op_call 9 _ _ rfl #[.agg (u8s x).toArray] (by simp only [List.map_toArray, List.map_cons, List.map_nil]; rfl) Tryd.func9 (by kernel_rfl) (by kernel_rfl) _) (CG2.out y2) ?_)
  rintro e y3 ⟨rfl, hB⟩
  have hS3 : Row y3 S 35 (scs s) ∧ Row y3 X 23 (u8s x) := ⟨hS2.1.old hB, hS2.2.old hB⟩
  have b3 : Below w.heap.size w y3 := below_step b2 b2.size hB
  refine ⟨_, rfl, hS3, ?_⟩
  clear hS2 b2 hB
  simp only [Act.put, List.setIfInBounds_toArray, List.set_cons_zero, List.set_cons_succ]
  refine h_take 5 (.bool true) rfl 12 rfl (by kernel_rfl) (by kernel_rfl) (by kernel_rfl) (by kernel_rfl) (fun _ _ _ h => h) (fun w' _ => run_op_eqlRS GK.out GK.out _ _ _ rfl rfl rfl true (by simp) w') hS3 ?_
  simp only [Act.put, List.setIfInBounds_toArray, List.set_cons_zero, List.set_cons_succ]
  refine h_take 6 (.bool true) rfl 13 rfl (by kernel_rfl) (by kernel_rfl) (by kernel_rfl) (by kernel_rfl) (fun _ _ _ h => h) (fun w' _ => by kernel_rfl) hS3 ?_
  simp only [Act.put, List.setIfInBounds_toArray, List.set_cons_zero, List.set_cons_succ]
  refine h_take 7 (.agg (scs s).toArray) rfl 14 rfl (by kernel_rfl) (by kernel_rfl) (by kernel_rfl) (by kernel_rfl) (fun _ _ _ h => h) (fun w' hw => run_op_load _ _ rfl S 0 rfl (scs s) ((Has.refl _).range hw.1) (sz_sta OK.out)) hS3 ?_
  simp only [Act.put, List.setIfInBounds_toArray, List.set_cons_zero, List.set_cons_succ]
  refine h_take 9 (.agg (scs s).toArray) rfl 16 rfl (by kernel_rfl) (by kernel_rfl) (by kernel_rfl) (by kernel_rfl) (fun _ _ _ h => h) (fun w' hw => run_op_load _ _ rfl S 0 rfl (scs s) ((Has.refl _).range hw.1) (sz_sta OK.out)) hS3 ?_
  simp only [Act.put, List.setIfInBounds_toArray, List.set_cons_zero, List.set_cons_succ]
  refine h_one (i := 8) (by kernel_rfl) (o_call rfl 15 rfl (by kernel_rfl) (run_op_call 10 _ _ rfl #[.agg (scs s).toArray] (by simp only [List.map_toArray, List.map_cons, List.map_nil]; rfl) Tryd.func10 (by kernel_rfl) (by kernel_rfl) _) (CR.out y3) ?_)
  rintro e y4 ⟨rfl, hB⟩
  have hS4 : Row y4 S 35 (scs s) ∧ Row y4 X 23 (u8s x) := ⟨hS3.1.old hB, hS3.2.old hB⟩
  have b4 : Below w.heap.size w y4 := below_step b3 b3.size hB
  refine ⟨_, rfl, hS4, ?_⟩
  clear hS3 b3 hB
  simp only [Act.put, List.setIfInBounds_toArray, List.set_cons_zero, List.set_cons_succ]
  refine h_one (i := 10) (by kernel_rfl) (o_call rfl 17 rfl (by kernel_rfl) (run_op_call 7 _ _ rfl #[.agg (scs s).toArray] (by simp only [List.map_toArray, List.map_cons, List.map_nil]; rfl) Tryd.func7 (by kernel_rfl) (by kernel_rfl) _) (CO.out y4) ?_)
  rintro e y5 ⟨rfl, hB⟩
  have hS5 : Row y5 S 35 (scs s) ∧ Row y5 X 23 (u8s x) := ⟨hS4.1.old hB, hS4.2.old hB⟩
  have b5 : Below w.heap.size w y5 := below_step b4 b4.size hB
  refine ⟨_, rfl, hS5, ?_⟩
  clear hS4 b4 hB
  simp only [Act.put, List.setIfInBounds_toArray, List.set_cons_zero, List.set_cons_succ]
  refine h_one (i := 11) (by kernel_rfl) (o_call rfl 18 rfl (by kernel_rfl) (run_op_call 11 _ _ rfl #[.agg (scs s).toArray] (by simp only [List.map_toArray, List.map_cons, List.map_nil]; rfl) Tryd.func11 (by kernel_rfl) (by kernel_rfl) _) (CR2.out y5) ?_)
  rintro e y6 ⟨rfl, hB⟩
  have hS6 : Row y6 S 35 (scs s) ∧ Row y6 X 23 (u8s x) := ⟨hS5.1.old hB, hS5.2.old hB⟩
  have b6 : Below w.heap.size w y6 := below_step b5 b5.size hB
  refine ⟨_, rfl, hS6, ?_⟩
  clear hS5 b5 hB
  simp only [Act.put, List.setIfInBounds_toArray, List.set_cons_zero, List.set_cons_succ]
  refine h_take 12 (.bool true) rfl 19 rfl (by kernel_rfl) (by kernel_rfl) (by kernel_rfl) (by kernel_rfl) (fun _ _ _ h => h) (fun w' _ => by cases v <;> kernel_rfl) hS6 ?_
  simp only [Act.put, List.setIfInBounds_toArray, List.set_cons_zero, List.set_cons_succ]
  refine h_take 13 (.bool true) rfl 20 rfl (by kernel_rfl) (by kernel_rfl) (by kernel_rfl) (by kernel_rfl) (fun _ _ _ h => h) (fun w' _ => by kernel_rfl) hS6 ?_
  simp only [Act.put, List.setIfInBounds_toArray, List.set_cons_zero, List.set_cons_succ]
  refine h_take 14 (.bool true) rfl 21 rfl (by kernel_rfl) (by kernel_rfl) (by kernel_rfl) (by kernel_rfl) (fun _ _ _ h => h) (fun w' _ => by kernel_rfl) hS6 ?_
  simp only [Act.put, List.setIfInBounds_toArray, List.set_cons_zero, List.set_cons_succ]
  refine h_take 15 (.agg (scs s).toArray) rfl 22 rfl (by kernel_rfl) (by kernel_rfl) (by kernel_rfl) (by kernel_rfl) (fun _ _ _ h => h) (fun w' hw => run_op_load _ _ rfl S 0 rfl (scs s) ((Has.refl _).range hw.1) (sz_sta OK.out)) hS6 ?_
  simp only [Act.put, List.setIfInBounds_toArray, List.set_cons_zero, List.set_cons_succ]
  refine h_take 17 (.agg (scs s).toArray) rfl 24 rfl (by kernel_rfl) (by kernel_rfl) (by kernel_rfl) (by kernel_rfl) (fun _ _ _ h => h) (fun w' hw => run_op_load _ _ rfl S 0 rfl (scs s) ((Has.refl _).range hw.1) (sz_sta OK.out)) hS6 ?_
  simp only [Act.put, List.setIfInBounds_toArray, List.set_cons_zero, List.set_cons_succ]
  refine h_one (i := 16) (by kernel_rfl) (o_call rfl 23 rfl (by kernel_rfl) (run_op_call 13 _ _ rfl #[.agg (scs s).toArray] (by simp only [List.map_toArray, List.map_cons, List.map_nil]; rfl) Tryd.func13 (by kernel_rfl) (by kernel_rfl) _) (CB.out y6) ?_)
  rintro e y7 ⟨⟨q1, c1, rfl, hO1⟩, hB⟩
  have hS7 : Row y7 S 35 (scs s) ∧ Row y7 X 23 (u8s x) := ⟨hS6.1.old hB, hS6.2.old hB⟩
  have b7 : Below w.heap.size w y7 := below_step b6 b6.size hB
  rw [HBL.out]
  have hP1 := hO1
  refine ⟨_, rfl, hS7, ?_⟩
  clear hS6 b6 hB
  simp only [Act.put, List.setIfInBounds_toArray, List.set_cons_zero, List.set_cons_succ]
  refine h_one (i := 18) (by kernel_rfl) (o_call rfl 25 rfl (by kernel_rfl) (run_op_call 7 _ _ rfl #[.agg (scs s).toArray] (by simp only [List.map_toArray, List.map_cons, List.map_nil]; rfl) Tryd.func7 (by kernel_rfl) (by kernel_rfl) _) (CO.out y7) ?_)
  rintro e y8 ⟨rfl, hB⟩
  have hS8 : Row y8 S 35 (scs s) ∧ Row y8 X 23 (u8s x) := ⟨hS7.1.old hB, hS7.2.old hB⟩
  have b8 : Below w.heap.size w y8 := below_step b7 b7.size hB
  have hP2 := hP1.below hB
  clear hO1 hP1
  refine ⟨_, rfl, hS8, ?_⟩
  clear hS7 b7 hB
  simp only [Act.put, List.setIfInBounds_toArray, List.set_cons_zero, List.set_cons_succ]
  refine h_one (i := 19) (by kernel_rfl) (o_call rfl 26 rfl (by kernel_rfl) (run_op_call 14 _ _ rfl #[.agg (scs s).toArray] (by simp only [List.map_toArray, List.map_cons, List.map_nil]; rfl) Tryd.func14 (by kernel_rfl) (by kernel_rfl) _) (CB2.out y8) ?_)
  rintro e y9 ⟨⟨q2, c2, rfl, hO2⟩, hB⟩
  have hS9 : Row y9 S 35 (scs s) ∧ Row y9 X 23 (u8s x) := ⟨hS8.1.old hB, hS8.2.old hB⟩
  have b9 : Below w.heap.size w y9 := below_step b8 b8.size hB
  have hP3 := hP2.below hB
  clear hP2
  refine ⟨_, rfl, hS9, ?_⟩
  clear hS8 b8 hB
  simp only [Act.put, List.setIfInBounds_toArray, List.set_cons_zero, List.set_cons_succ]
  refine h_one (i := 20) (by kernel_rfl) (o_call rfl 27 rfl (by kernel_rfl) (run_op_call 12 _ _ rfl #[.slice q1 396 c1, .slice q2 396 c2] (by simp only [List.map_toArray, List.map_cons, List.map_nil]; rfl) Tryd.func12 (by kernel_rfl) (by kernel_rfl) _) (same_at bs bs q1 q2 c1 c2 396 396 HBL.out.symm HBL.out.symm y9 hP3.rd hO2.rd (by rw [HBL.out]; omega) (by rw [HBL.out]; omega)) ?_)
  rintro e y10 ⟨rfl, hB⟩
  have hS10 : Row y10 S 35 (scs s) ∧ Row y10 X 23 (u8s x) := ⟨hS9.1.old hB, hS9.2.old hB⟩
  have b10 : Below w.heap.size w y10 := below_step b9 b9.size hB
  rw [decide_eq_true (rfl : bs = bs)]
  clear hP3 hO2
  refine ⟨_, rfl, hS10, ?_⟩
  clear hS9 b9 hB
  simp only [Act.put, List.setIfInBounds_toArray, List.set_cons_zero, List.set_cons_succ]
  refine h_take 21 (.bool true) rfl 28 rfl (by kernel_rfl) (by kernel_rfl) (by kernel_rfl) (by kernel_rfl) (fun _ _ _ h => h) (fun w' _ => by kernel_rfl) hS10 ?_
  simp only [Act.put, List.setIfInBounds_toArray, List.set_cons_zero, List.set_cons_succ]
  refine h_take 22 (.bool true) rfl 29 rfl (by kernel_rfl) (by kernel_rfl) (by kernel_rfl) (by kernel_rfl) (fun _ _ _ h => h) (fun w' _ => by kernel_rfl) hS10 ?_
  simp only [Act.put, List.setIfInBounds_toArray, List.set_cons_zero, List.set_cons_succ]
  refine h_take 23 (.agg (scs s).toArray) rfl 30 rfl (by kernel_rfl) (by kernel_rfl) (by kernel_rfl) (by kernel_rfl) (fun _ _ _ h => h) (fun w' hw => run_op_load _ _ rfl S 0 rfl (scs s) ((Has.refl _).range hw.1) (sz_sta OK.out)) hS10 ?_
  simp only [Act.put, List.setIfInBounds_toArray, List.set_cons_zero, List.set_cons_succ]
  refine h_take 25 (.agg (scs s).toArray) rfl 32 rfl (by kernel_rfl) (by kernel_rfl) (by kernel_rfl) (by kernel_rfl) (fun _ _ _ h => h) (fun w' hw => run_op_load _ _ rfl S 0 rfl (scs s) ((Has.refl _).range hw.1) (sz_sta OK.out)) hS10 ?_
  simp only [Act.put, List.setIfInBounds_toArray, List.set_cons_zero, List.set_cons_succ]
  refine h_one (i := 24) (by kernel_rfl) (o_call rfl 31 rfl (by kernel_rfl) (run_op_call 15 _ _ rfl #[.agg (scs s).toArray] (by simp only [List.map_toArray, List.map_cons, List.map_nil]; rfl) Tryd.func15 (by kernel_rfl) (by kernel_rfl) _) (CH.out y10 (HKW.out y10 b10)) ?_)
  rintro e y11 ⟨rfl, hB⟩
  have hS11 : Row y11 S 35 (scs s) ∧ Row y11 X 23 (u8s x) := ⟨hS10.1.old hB, hS10.2.old hB⟩
  have b11 : Below w.heap.size w y11 := below_step b10 b10.size hB
  refine ⟨_, rfl, hS11, ?_⟩
  clear hS10 b10 hB
  simp only [Act.put, List.setIfInBounds_toArray, List.set_cons_zero, List.set_cons_succ]
  refine h_one (i := 26) (by kernel_rfl) (o_call rfl 33 rfl (by kernel_rfl) (run_op_call 7 _ _ rfl #[.agg (scs s).toArray] (by simp only [List.map_toArray, List.map_cons, List.map_nil]; rfl) Tryd.func7 (by kernel_rfl) (by kernel_rfl) _) (CO.out y11) ?_)
  rintro e y12 ⟨rfl, hB⟩
  have hS12 : Row y12 S 35 (scs s) ∧ Row y12 X 23 (u8s x) := ⟨hS11.1.old hB, hS11.2.old hB⟩
  have b12 : Below w.heap.size w y12 := below_step b11 b11.size hB
  refine ⟨_, rfl, hS12, ?_⟩
  clear hS11 b11 hB
  simp only [Act.put, List.setIfInBounds_toArray, List.set_cons_zero, List.set_cons_succ]
  refine h_one (i := 27) (by kernel_rfl) (o_call rfl 34 rfl (by kernel_rfl) (run_op_call 16 _ _ rfl #[.agg (scs s).toArray] (by simp only [List.map_toArray, List.map_cons, List.map_nil]; rfl) Tryd.func16 (by kernel_rfl) (by kernel_rfl) _) (CH2.out y12 (HKR.out y12 b12)) ?_)
  rintro e y13 ⟨rfl, hB⟩
  have hS13 : Row y13 S 35 (scs s) ∧ Row y13 X 23 (u8s x) := ⟨hS12.1.old hB, hS12.2.old hB⟩
  have b13 : Below w.heap.size w y13 := below_step b12 b12.size hB
  refine ⟨_, rfl, hS13, ?_⟩
  clear hS12 b12 hB
  simp only [Act.put, List.setIfInBounds_toArray, List.set_cons_zero, List.set_cons_succ]
  refine h_take 28 (.bool true) rfl 35 rfl (by kernel_rfl) (by kernel_rfl) (by kernel_rfl) (by kernel_rfl) (fun _ _ _ h => h) (fun w' _ => run_op_eql _ _ _ rfl dg KD.out.len rfl rfl w') hS13 ?_
  simp only [Act.put, List.setIfInBounds_toArray, List.set_cons_zero, List.set_cons_succ]
  refine h_take 29 (.bool true) rfl 36 rfl (by kernel_rfl) (by kernel_rfl) (by kernel_rfl) (by kernel_rfl) (fun _ _ _ h => h) (fun w' _ => by kernel_rfl) hS13 ?_
  simp only [Act.put, List.setIfInBounds_toArray, List.set_cons_zero, List.set_cons_succ]
  refine h_take 30 (.bool true) rfl 4 rfl (by kernel_rfl) (by kernel_rfl) (by kernel_rfl) (by kernel_rfl) (fun _ _ _ h => h) (fun w' _ => by kernel_rfl) hS13 ?_
  simp only [Act.put, List.setIfInBounds_toArray, List.set_cons_zero, List.set_cons_succ]
  refine wpAnyH_done (by kernel_rfl) ?_ _
  go_wp2_with fail
  go_ret
  exact ⟨rfl, b13⟩
end Go.Proofs.YtddnolppjlbibaaDoor.Sa
