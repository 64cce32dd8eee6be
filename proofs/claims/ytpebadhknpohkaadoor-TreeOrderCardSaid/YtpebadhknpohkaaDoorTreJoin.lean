/-
  The contracts of Join, package tree's and the document's. Over this seat's translation.
-/
import Derived.Test.YtpebadhknpohkaaDoorTreMem
import Derived.Test.YtpebadhknpohkaaDoorTagAll
import Derived.Test.YtpebadhknpohkaaDoorMemAll
import Derived.Test.YtpebadhknpohkaaDoorAccRefAll
namespace Go.Proofs.YtpebadhknpohkaaDoor.Tr
open Go.ChangeShapes Go.WideShapes Go.ChangeAt Go.RowKit Go.Proofs.YtpebadhknpohkaaDoor.Mem Go.Proofs.YtpebadhknpohkaaDoor.Bt Go.Proofs.YtpebadhknpohkaaDoor.Wi Go.Proofs.YtpebadhknpohkaaDoor.Sha Go.Proofs.YtpebadhknpohkaaDoor.Ac Go.Proofs.YtpebadhknpohkaaDoor.Im
open Go.Proofs.YtpebadhknpohkaaDoor.Tg (bytesOf bytesOf_length bytesOf_lt bytesOf_inj Rd Rd.below Parts parts_one arm_one tagD tagD_len tagOf_any refTag_any total)
open Go.Proofs.YtpebadhknpohkaaDoor.Ep (H32 zh zh_ok Has h_len szH zH fitH allH came_at)
set_option linter.unusedVariables false
set_option linter.unusedSimpArgs false

theorem run_op_conv8 {o : Oper} {a : Act} (x : Operand) (ho : o.op = .convert 3 5 x) (m n : Int) (hx : a.eval x = .int .i64 m) (hw : IntKind.u8.wrap m = n) (w : World) : (execOp a.eval o).run Tryd.prog w = .ok (.value (.int .u8 n)) w := by
  subst hw
  unfold execOp
  simp only [ho, hx]
  kernel_rfl
theorem run_byte (n : Int) (w : World) : (Instr.buildSlice 71 1 #[(0, .int .u8 n)]).run Tryd.prog w = .ok (.slice (some ⟨w.heap.size, 0, none⟩) 1 1) (w.alloc (.cells #[.int .u8 n] 5)) := by kernel_rfl
theorem run_op_byte {o : Oper} {a : Act} (x : Operand) (ho : o.op = .buildSlice 71 1 #[(0, x)]) (n : Int) (hx : a.eval x = .int .u8 n) (w : World) :
    (execOp a.eval o).run Tryd.prog w = .ok (.value (.slice (some ⟨w.heap.size, 0, none⟩) 1 1)) (w.alloc (.cells #[.int .u8 n] 5)) := by
  unfold execOp
  simp only [ho, List.map_toArray, List.map_cons, List.map_nil, hx, Sem.run_bind, run_byte, Result.andThen_ok, Sem.run_pure]
theorem run_three (p q r : Option Addr) (n m k c e f : Nat) (w : World) : (Instr.buildSlice 77 3 #[(0, .slice p n c), (1, .slice q m e), (2, .slice r k f)]).run Tryd.prog w = .ok (.slice (some ⟨w.heap.size, 0, none⟩) 3 3) (w.alloc (.cells #[.slice p n c, .slice q m e, .slice r k f] 71)) := by kernel_rfl
theorem run_op_three {o : Oper} {a : Act} (x y z : Operand) (ho : o.op = .buildSlice 77 3 #[(0, x), (1, y), (2, z)]) (p q r : Option Addr) (n m k c e f : Nat) (hx : a.eval x = .slice p n c) (hy : a.eval y = .slice q m e) (hz : a.eval z = .slice r k f) (w : World) :
    (execOp a.eval o).run Tryd.prog w = .ok (.value (.slice (some ⟨w.heap.size, 0, none⟩) 3 3)) (w.alloc (.cells #[.slice p n c, .slice q m e, .slice r k f] 71)) := by
  unfold execOp
  simp only [ho, List.map_toArray, List.map_cons, List.map_nil, hx, hy, hz, Sem.run_bind, run_three, Result.andThen_ok, Sem.run_pure]
theorem came_byte {w : World} {b h : Nat} (hr : Row w b 5 (u8s [h])) (hh : h < 256) : Came w (some ⟨b, 0, none⟩) 1 [h] :=
  ⟨by simp, fun e => (by cases e), fun _ => ⟨b, 0, rfl, (Has.refl _).range hr⟩, fun x hx => by rw [List.mem_singleton.1 hx]; exact hh, by unfold maxLen; simp⟩
theorem parts_three {w : World} {b : Nat} {p q r : Option Addr} {h : Nat} {x y : List Nat} (hr : Row w b 71 [.slice p 1 1, .slice q 32 32, .slice r 32 32]) (hb : Came w p 1 [h]) (hc : Came w q 32 x) (hd : Came w r 32 y) (k : H32 x) (j : H32 y) : Parts w (some ⟨b, 0, none⟩) [[h], x, y] :=
  ⟨fun _ => ⟨b, 0, rfl, hr.lt, fun i hi => by
    have hi' : i < 3 := hi
    obtain rfl | rfl | rfl : i = 0 ∨ i = 1 ∨ i = 2 := by omega
    · exact ⟨p, 1, by show _ = some (Value.slice p [h].length 1); exact hr.cell rfl, hb⟩
    · exact ⟨q, 32, by show _ = some (Value.slice q x.length 32); rw [k.len]; exact hr.cell rfl, hc⟩
    · exact ⟨r, 32, by show _ = some (Value.slice r y.length 32); rw [j.len]; exact hr.cell rfl, hd⟩⟩⟩
set_option maxHeartbeats 4000000 in
set_option maxRecDepth 100000 in
theorem join_any (h : Nat) (l r : List Nat) (w : World) (hh : h < 256) (kl : H32 l) (kr : H32 r) (hk : w.rangeAt 0 0 (u32s ks)) :
    Calls Tryd.prog 23 #[.int .i64 (h : Int), .agg (u8s l).toArray, .agg (u8s r).toArray] w fun e w' => e = .returned (.agg (u8s (joinD h l r)).toArray) ∧ Below w.heap.size w w' := by
  have hk1 : 0 < w.heap.size := range_lt hk (by simp [u32s, ks])
  have HKW : Hid (∀ w', Below w.heap.size w w' → w'.rangeAt 0 0 (u32s ks)) := Lib.hid fun w' hb => range_block hk (hb.block _ hk1)
  have KL := Lib.hid kl; have KR := Lib.hid kr
  have HW : Hid (IntKind.u8.wrap (h : Int) = (h : Int)) := Lib.hid (by rw [IntKind.wrap_u8]; omega)
  have HH := Lib.hid hh
  have HD : Hid (tagD ⟨#[110, 111, 100, 101]⟩ [[h], l, r] = joinD h l r) := Lib.hid rfl
  have KD := Lib.hid (join_ok h l r)
  clear hk hk1 kl kr hh
  generalize joinD h l r = dd at HD KD ⊢
  go_enter Tryd.func23, Tryd.ntmps23
  go_wp2_with (first
    | ((with_reducible refine at_slot 4 ?_); (refine arm_box (o := ⟨some 4, _, _, _, _, _⟩) rfl _ _ rfl (u8s l) rfl ?_); intro X v1 Xe hv1 nv1)
    | ((with_reducible refine at_slot 5 ?_); (refine arm_box (o := ⟨some 5, _, _, _, _, _⟩) rfl _ _ rfl (u8s r) rfl ?_); intro Y v2 Ye hv2 nv2)
    | ((with_reducible refine at_slot 6 ?_); (refine arm_alloc (o := ⟨some 6, _, _, _, _, _⟩) rfl _ rfl (u8s zh) zH ?_); intro R v3 Re hv3 nv3))
  have hbv1 := nv1.below
  have rrv1 : Row v1 X 50 (u8s l) := hv1
  have hbv2 := nv2.below
  have rrv2 : Row v2 Y 50 (u8s r) := hv2
  have hbv3 := nv3.below
  have rrv3 : Row v3 R 50 (u8s zh) := hv3
  have geX : w.heap.size ≤ X := by have := Xe.out; omega
  clear hv1 nv1 Xe
  have bel_4 : Below w.heap.size w v1 := hbv1
  clear hbv1
  have geY : w.heap.size ≤ Y := by have := Ye.out; have := bel_4.size; omega
  clear hv2 nv2 Ye
  have X_5 : Row v2 X 50 (u8s l) := rrv1.old hbv2
  have bel_5 : Below w.heap.size w v2 := below_step bel_4 bel_4.size hbv2
  clear rrv1 bel_4 hbv2
  have geR : w.heap.size ≤ R := by have := Re.out; have := bel_5.size; omega
  clear hv3 nv3 Re
  have X_6 : Row v3 X 50 (u8s l) := X_5.old hbv3
  have Y_6 : Row v3 Y 50 (u8s r) := rrv2.old hbv3
  have bel_6 : Below w.heap.size w v3 := below_step bel_5 bel_5.size hbv3
  clear X_5 rrv2 bel_5 hbv3
  refine wp_region_held (S := fun w' => True) (by kernel_rfl) ?_
  change wpAnyH _ _ _ _ _ _ _ _ v3.drew
  have hd7 : Below v3.heap.size v3 v3.drew := (Below.refl _ _).drew
  have X_8 : Row v3.drew X 50 (u8s l) := X_6.old hd7
  have Y_8 : Row v3.drew Y 50 (u8s r) := Y_6.old hd7
  have R_8 : Row v3.drew R 50 (u8s zh) := rrv3.old hd7
  have bel_8 : Below w.heap.size w v3.drew := below_step bel_6 bel_6.size hd7
  clear X_6 Y_6 rrv3 bel_6 hd7
  generalize v3.drew = yz7 at X_8 Y_8 R_8 bel_8 ⊢
  refine h_take 0 (.int .i64 (h : Int)) rfl 7 rfl (by kernel_rfl) (by kernel_rfl) (by kernel_rfl) (by kernel_rfl) (fun _ _ _ h => h) (fun w' _ => by kernel_rfl) trivial ?_
  simp only [Act.put, List.setIfInBounds_toArray, List.set_cons_zero, List.set_cons_succ]
  refine h_take 1 (.int .u8 (h : Int)) rfl 8 rfl (by kernel_rfl) (by kernel_rfl) (by kernel_rfl) (by kernel_rfl) (fun _ _ _ h => h) (fun w' _ => run_op_conv8 _ rfl _ _ rfl HW.out w') trivial ?_
  simp only [Act.put, List.setIfInBounds_toArray, List.set_cons_zero, List.set_cons_succ]
  refine h_take 3 (.slice (some ⟨X, 0, none⟩) 32 32) rfl 10 rfl (by kernel_rfl) (by kernel_rfl) (by kernel_rfl) (by kernel_rfl) (fun _ _ _ h => h) (fun w' _ => run_op_sliceAll _ _ rfl 32 5 (by kernel_rfl) (by kernel_rfl) X 0 rfl (by omega) w') trivial ?_
  simp only [Act.put, List.setIfInBounds_toArray, List.set_cons_zero, List.set_cons_succ]
  refine h_take 4 (.slice (some ⟨Y, 0, none⟩) 32 32) rfl 11 rfl (by kernel_rfl) (by kernel_rfl) (by kernel_rfl) (by kernel_rfl) (fun _ _ _ h => h) (fun w' _ => run_op_sliceAll _ _ rfl 32 5 (by kernel_rfl) (by kernel_rfl) Y 0 rfl (by omega) w') trivial ?_
  simp only [Act.put, List.setIfInBounds_toArray, List.set_cons_zero, List.set_cons_succ]
  refine h_one (i := 2) (by kernel_rfl) (o_value _ rfl 9 rfl (by kernel_rfl) (run_op_byte _ rfl _ rfl _) ?_)
  have hNy9 := (new_alloc yz7 (.cells #[.int .u8 (h : Int)] 5)).below
  have rNy9 : Row (yz7.alloc (.cells #[.int .u8 (h : Int)] 5)) yz7.heap.size 5 (u8s [h]) := heap_alloc_new _ _
  have geQ : w.heap.size ≤ yz7.heap.size := bel_8.size
  generalize yz7.alloc (.cells #[.int .u8 (h : Int)] 5) = y9 at hNy9 rNy9 ⊢
  have X_10 : Row y9 X 50 (u8s l) := X_8.old hNy9
  have Y_10 : Row y9 Y 50 (u8s r) := Y_8.old hNy9
  have R_10 : Row y9 R 50 (u8s zh) := R_8.old hNy9
  have bel_10 : Below w.heap.size w y9 := below_step bel_8 bel_8.size hNy9
  clear X_8 Y_8 R_8 bel_8 hNy9
  generalize yz7.heap.size = Q at rNy9 geQ ⊢
  refine ⟨trivial, ?_⟩
  simp only [Act.put, List.setIfInBounds_toArray, List.set_cons_zero, List.set_cons_succ]
  refine h_one (i := 5) (by kernel_rfl) (o_value _ rfl 12 rfl (by kernel_rfl) (run_op_three _ _ _ rfl (some ⟨Q, 0, none⟩) (some ⟨X, 0, none⟩) (some ⟨Y, 0, none⟩) 1 32 32 1 32 32 rfl rfl rfl _) ?_)
  have hNy11 := (new_alloc y9 (.cells #[.slice (some ⟨Q, 0, none⟩) 1 1, .slice (some ⟨X, 0, none⟩) 32 32, .slice (some ⟨Y, 0, none⟩) 32 32] 71)).below
  have rNy11 : Row (y9.alloc (.cells #[.slice (some ⟨Q, 0, none⟩) 1 1, .slice (some ⟨X, 0, none⟩) 32 32, .slice (some ⟨Y, 0, none⟩) 32 32] 71)) y9.heap.size 71 ([.slice (some ⟨Q, 0, none⟩) 1 1, .slice (some ⟨X, 0, none⟩) 32 32, .slice (some ⟨Y, 0, none⟩) 32 32]) := heap_alloc_new _ _
  have geZ : w.heap.size ≤ y9.heap.size := bel_10.size
  generalize y9.alloc (.cells #[.slice (some ⟨Q, 0, none⟩) 1 1, .slice (some ⟨X, 0, none⟩) 32 32, .slice (some ⟨Y, 0, none⟩) 32 32] 71) = y11 at hNy11 rNy11 ⊢
  have X_12 : Row y11 X 50 (u8s l) := X_10.old hNy11
  have Y_12 : Row y11 Y 50 (u8s r) := Y_10.old hNy11
  have R_12 : Row y11 R 50 (u8s zh) := R_10.old hNy11
  have Q_12 : Row y11 Q 5 (u8s [h]) := rNy9.old hNy11
  have bel_12 : Below w.heap.size w y11 := below_step bel_10 bel_10.size hNy11
  clear X_10 Y_10 R_10 rNy9 bel_10 hNy11
  generalize y9.heap.size = Z at rNy11 geZ ⊢
  refine ⟨trivial, ?_⟩
  simp only [Act.put, List.setIfInBounds_toArray, List.set_cons_zero, List.set_cons_succ]
  have hpt : Parts y11 (some ⟨Z, 0, none⟩) [[h], l, r] := parts_three rNy11 (came_byte Q_12 HH.out) (came_at ((Has.refl _).range X_12) KL.out) (came_at ((Has.refl _).range Y_12) KR.out) KL.out KR.out
  have CT := tagOf_any ⟨#[110, 111, 100, 101]⟩ [[h], l, r] (some ⟨Z, 0, none⟩) 3 y11 (by simp [total, KL.out.len, KR.out.len]) hpt (HKW.out _ bel_12)
  rw [HD.out] at CT
  clear hpt
  refine h_one (i := 6) (by kernel_rfl) (o_call rfl 13 rfl (by kernel_rfl) (run_op_call 30 _ _ rfl #[.string ⟨#[110, 111, 100, 101]⟩, .slice (some ⟨Z, 0, none⟩) 3 3] (by simp only [List.map_toArray, List.map_cons, List.map_nil]; rfl) Tryd.func30 (by kernel_rfl) (by kernel_rfl) _) (CT) ?_)
  rintro e y13 ⟨rfl, hB⟩
  have X_14 : Row y13 X 50 (u8s l) := X_12.old hB
  have Y_14 : Row y13 Y 50 (u8s r) := Y_12.old hB
  have R_14 : Row y13 R 50 (u8s zh) := R_12.old hB
  have Q_14 : Row y13 Q 5 (u8s [h]) := Q_12.old hB
  have Z_14 : Row y13 Z 71 ([.slice (some ⟨Q, 0, none⟩) 1 1, .slice (some ⟨X, 0, none⟩) 32 32, .slice (some ⟨Y, 0, none⟩) 32 32]) := rNy11.old hB
  have bel_14 : Below w.heap.size w y13 := below_step bel_12 bel_12.size hB
  clear X_12 Y_12 R_12 Q_12 rNy11 bel_12 hB
  refine ⟨_, rfl, trivial, ?_⟩
  simp only [Act.put, List.setIfInBounds_toArray, List.set_cons_zero, List.set_cons_succ]
  clear CT
  clear X_14
  clear Y_14
  clear Q_14
  clear Z_14
  refine h_one (i := 7) (by kernel_rfl) (o_skip rfl rfl (by kernel_rfl) (run_op_store _ _ _ rfl R (0) rfl (u8s dd) rfl _ _ R_14 (fitH KD.out) (u8s_one _) (szH KD.out)) ?_)
  have rq := row_setRow R_14 (lay (u8s zh) (0) (u8s dd))
  have oq := Only.setRow R y13 (lay (u8s zh) (0) (u8s dd)).toArray
  generalize y13.setRow R (lay (u8s zh) (0) (u8s dd)).toArray = y15 at rq oq ⊢
  have R_16 : Row y15 R 50 (u8s dd) := rq.congr (allH KD.out)
  have bel_16 : Below w.heap.size w y15 := below_only bel_14 oq geR bel_14.size
  clear R_14 bel_14 oq
  clear rq
  refine ⟨trivial, ?_⟩
  refine wpAnyH_done (by kernel_rfl) ?_ _
  go_wp2_with fail
  exact bodyPost_ret (v := .agg (u8s dd).toArray) (result_row (p := 6) (ty := 50) (u := 50) (by kernel_rfl) _ _ R (u8s dd) rfl R_16 (szH KD.out)) rfl ⟨rfl, bel_16⟩
set_option maxHeartbeats 4000000 in
set_option maxRecDepth 100000 in
theorem rjoin_any (h : Nat) (l r : List Nat) (w : World) (hh : h < 256) (kl : H32 l) (kr : H32 r) (hk : w.rangeAt 1 0 (u32s ks)) :
    Calls Tryd.prog 34 #[.int .i64 (h : Int), .agg (u8s l).toArray, .agg (u8s r).toArray] w fun e w' => e = .returned (.agg (u8s (joinD h l r)).toArray) ∧ Below w.heap.size w w' := by
  have hk1 : 1 < w.heap.size := range_lt hk (by simp [u32s, ks])
  have HKW : Hid (∀ w', Below w.heap.size w w' → w'.rangeAt 1 0 (u32s ks)) := Lib.hid fun w' hb => range_block hk (hb.block _ hk1)
  have KL := Lib.hid kl; have KR := Lib.hid kr
  have HW : Hid (IntKind.u8.wrap (h : Int) = (h : Int)) := Lib.hid (by rw [IntKind.wrap_u8]; omega)
  have HH := Lib.hid hh
  have HD : Hid (tagD ⟨#[110, 111, 100, 101]⟩ [[h], l, r] = joinD h l r) := Lib.hid rfl
  have KD := Lib.hid (join_ok h l r)
  clear hk hk1 kl kr hh
  generalize joinD h l r = dd at HD KD ⊢
  go_enter Tryd.func34, Tryd.ntmps34
  go_wp2_with (first
    | ((with_reducible refine at_slot 4 ?_); (refine arm_box (o := ⟨some 4, _, _, _, _, _⟩) rfl _ _ rfl (u8s l) rfl ?_); intro X v1 Xe hv1 nv1)
    | ((with_reducible refine at_slot 5 ?_); (refine arm_box (o := ⟨some 5, _, _, _, _, _⟩) rfl _ _ rfl (u8s r) rfl ?_); intro Y v2 Ye hv2 nv2)
    | ((with_reducible refine at_slot 6 ?_); (refine arm_alloc (o := ⟨some 6, _, _, _, _, _⟩) rfl _ rfl (u8s zh) zH ?_); intro R v3 Re hv3 nv3))
  have hbv1 := nv1.below
  have rrv1 : Row v1 X 50 (u8s l) := hv1
  have hbv2 := nv2.below
  have rrv2 : Row v2 Y 50 (u8s r) := hv2
  have hbv3 := nv3.below
  have rrv3 : Row v3 R 50 (u8s zh) := hv3
  have geX : w.heap.size ≤ X := by have := Xe.out; omega
  clear hv1 nv1 Xe
  have bel_4 : Below w.heap.size w v1 := hbv1
  clear hbv1
  have geY : w.heap.size ≤ Y := by have := Ye.out; have := bel_4.size; omega
  clear hv2 nv2 Ye
  have X_5 : Row v2 X 50 (u8s l) := rrv1.old hbv2
  have bel_5 : Below w.heap.size w v2 := below_step bel_4 bel_4.size hbv2
  clear rrv1 bel_4 hbv2
  have geR : w.heap.size ≤ R := by have := Re.out; have := bel_5.size; omega
  clear hv3 nv3 Re
  have X_6 : Row v3 X 50 (u8s l) := X_5.old hbv3
  have Y_6 : Row v3 Y 50 (u8s r) := rrv2.old hbv3
  have bel_6 : Below w.heap.size w v3 := below_step bel_5 bel_5.size hbv3
  clear X_5 rrv2 bel_5 hbv3
  refine wp_region_held (S := fun w' => True) (by kernel_rfl) ?_
  change wpAnyH _ _ _ _ _ _ _ _ v3.drew
  have hd7 : Below v3.heap.size v3 v3.drew := (Below.refl _ _).drew
  have X_8 : Row v3.drew X 50 (u8s l) := X_6.old hd7
  have Y_8 : Row v3.drew Y 50 (u8s r) := Y_6.old hd7
  have R_8 : Row v3.drew R 50 (u8s zh) := rrv3.old hd7
  have bel_8 : Below w.heap.size w v3.drew := below_step bel_6 bel_6.size hd7
  clear X_6 Y_6 rrv3 bel_6 hd7
  generalize v3.drew = yz7 at X_8 Y_8 R_8 bel_8 ⊢
  refine h_take 0 (.int .i64 (h : Int)) rfl 7 rfl (by kernel_rfl) (by kernel_rfl) (by kernel_rfl) (by kernel_rfl) (fun _ _ _ h => h) (fun w' _ => by kernel_rfl) trivial ?_
  simp only [Act.put, List.setIfInBounds_toArray, List.set_cons_zero, List.set_cons_succ]
  refine h_take 1 (.int .u8 (h : Int)) rfl 8 rfl (by kernel_rfl) (by kernel_rfl) (by kernel_rfl) (by kernel_rfl) (fun _ _ _ h => h) (fun w' _ => run_op_conv8 _ rfl _ _ rfl HW.out w') trivial ?_
  simp only [Act.put, List.setIfInBounds_toArray, List.set_cons_zero, List.set_cons_succ]
  refine h_take 3 (.slice (some ⟨X, 0, none⟩) 32 32) rfl 10 rfl (by kernel_rfl) (by kernel_rfl) (by kernel_rfl) (by kernel_rfl) (fun _ _ _ h => h) (fun w' _ => run_op_sliceAll _ _ rfl 32 5 (by kernel_rfl) (by kernel_rfl) X 0 rfl (by omega) w') trivial ?_
  simp only [Act.put, List.setIfInBounds_toArray, List.set_cons_zero, List.set_cons_succ]
  refine h_take 4 (.slice (some ⟨Y, 0, none⟩) 32 32) rfl 11 rfl (by kernel_rfl) (by kernel_rfl) (by kernel_rfl) (by kernel_rfl) (fun _ _ _ h => h) (fun w' _ => run_op_sliceAll _ _ rfl 32 5 (by kernel_rfl) (by kernel_rfl) Y 0 rfl (by omega) w') trivial ?_
  simp only [Act.put, List.setIfInBounds_toArray, List.set_cons_zero, List.set_cons_succ]
  refine h_one (i := 2) (by kernel_rfl) (o_value _ rfl 9 rfl (by kernel_rfl) (run_op_byte _ rfl _ rfl _) ?_)
  have hNy9 := (new_alloc yz7 (.cells #[.int .u8 (h : Int)] 5)).below
  have rNy9 : Row (yz7.alloc (.cells #[.int .u8 (h : Int)] 5)) yz7.heap.size 5 (u8s [h]) := heap_alloc_new _ _
  have geQ : w.heap.size ≤ yz7.heap.size := bel_8.size
  generalize yz7.alloc (.cells #[.int .u8 (h : Int)] 5) = y9 at hNy9 rNy9 ⊢
  have X_10 : Row y9 X 50 (u8s l) := X_8.old hNy9
  have Y_10 : Row y9 Y 50 (u8s r) := Y_8.old hNy9
  have R_10 : Row y9 R 50 (u8s zh) := R_8.old hNy9
  have bel_10 : Below w.heap.size w y9 := below_step bel_8 bel_8.size hNy9
  clear X_8 Y_8 R_8 bel_8 hNy9
  generalize yz7.heap.size = Q at rNy9 geQ ⊢
  refine ⟨trivial, ?_⟩
  simp only [Act.put, List.setIfInBounds_toArray, List.set_cons_zero, List.set_cons_succ]
  refine h_one (i := 5) (by kernel_rfl) (o_value _ rfl 12 rfl (by kernel_rfl) (run_op_three _ _ _ rfl (some ⟨Q, 0, none⟩) (some ⟨X, 0, none⟩) (some ⟨Y, 0, none⟩) 1 32 32 1 32 32 rfl rfl rfl _) ?_)
  have hNy11 := (new_alloc y9 (.cells #[.slice (some ⟨Q, 0, none⟩) 1 1, .slice (some ⟨X, 0, none⟩) 32 32, .slice (some ⟨Y, 0, none⟩) 32 32] 71)).below
  have rNy11 : Row (y9.alloc (.cells #[.slice (some ⟨Q, 0, none⟩) 1 1, .slice (some ⟨X, 0, none⟩) 32 32, .slice (some ⟨Y, 0, none⟩) 32 32] 71)) y9.heap.size 71 ([.slice (some ⟨Q, 0, none⟩) 1 1, .slice (some ⟨X, 0, none⟩) 32 32, .slice (some ⟨Y, 0, none⟩) 32 32]) := heap_alloc_new _ _
  have geZ : w.heap.size ≤ y9.heap.size := bel_10.size
  generalize y9.alloc (.cells #[.slice (some ⟨Q, 0, none⟩) 1 1, .slice (some ⟨X, 0, none⟩) 32 32, .slice (some ⟨Y, 0, none⟩) 32 32] 71) = y11 at hNy11 rNy11 ⊢
  have X_12 : Row y11 X 50 (u8s l) := X_10.old hNy11
  have Y_12 : Row y11 Y 50 (u8s r) := Y_10.old hNy11
  have R_12 : Row y11 R 50 (u8s zh) := R_10.old hNy11
  have Q_12 : Row y11 Q 5 (u8s [h]) := rNy9.old hNy11
  have bel_12 : Below w.heap.size w y11 := below_step bel_10 bel_10.size hNy11
  clear X_10 Y_10 R_10 rNy9 bel_10 hNy11
  generalize y9.heap.size = Z at rNy11 geZ ⊢
  refine ⟨trivial, ?_⟩
  simp only [Act.put, List.setIfInBounds_toArray, List.set_cons_zero, List.set_cons_succ]
  have hpt : Parts y11 (some ⟨Z, 0, none⟩) [[h], l, r] := parts_three rNy11 (came_byte Q_12 HH.out) (came_at ((Has.refl _).range X_12) KL.out) (came_at ((Has.refl _).range Y_12) KR.out) KL.out KR.out
  have CT := refTag_any ⟨#[110, 111, 100, 101]⟩ [[h], l, r] (some ⟨Z, 0, none⟩) 3 y11 (by simp [total, KL.out.len, KR.out.len]) hpt (HKW.out _ bel_12)
  rw [HD.out] at CT
  clear hpt
  refine h_one (i := 6) (by kernel_rfl) (o_call rfl 13 rfl (by kernel_rfl) (run_op_call 43 _ _ rfl #[.string ⟨#[110, 111, 100, 101]⟩, .slice (some ⟨Z, 0, none⟩) 3 3] (by simp only [List.map_toArray, List.map_cons, List.map_nil]; rfl) Tryd.func43 (by kernel_rfl) (by kernel_rfl) _) (CT) ?_)
  rintro e y13 ⟨rfl, hB⟩
  have X_14 : Row y13 X 50 (u8s l) := X_12.old hB
  have Y_14 : Row y13 Y 50 (u8s r) := Y_12.old hB
  have R_14 : Row y13 R 50 (u8s zh) := R_12.old hB
  have Q_14 : Row y13 Q 5 (u8s [h]) := Q_12.old hB
  have Z_14 : Row y13 Z 71 ([.slice (some ⟨Q, 0, none⟩) 1 1, .slice (some ⟨X, 0, none⟩) 32 32, .slice (some ⟨Y, 0, none⟩) 32 32]) := rNy11.old hB
  have bel_14 : Below w.heap.size w y13 := below_step bel_12 bel_12.size hB
  clear X_12 Y_12 R_12 Q_12 rNy11 bel_12 hB
  refine ⟨_, rfl, trivial, ?_⟩
  simp only [Act.put, List.setIfInBounds_toArray, List.set_cons_zero, List.set_cons_succ]
  clear CT
  clear X_14
  clear Y_14
  clear Q_14
  clear Z_14
  refine h_one (i := 7) (by kernel_rfl) (o_skip rfl rfl (by kernel_rfl) (run_op_store _ _ _ rfl R (0) rfl (u8s dd) rfl _ _ R_14 (fitH KD.out) (u8s_one _) (szH KD.out)) ?_)
  have rq := row_setRow R_14 (lay (u8s zh) (0) (u8s dd))
  have oq := Only.setRow R y13 (lay (u8s zh) (0) (u8s dd)).toArray
  generalize y13.setRow R (lay (u8s zh) (0) (u8s dd)).toArray = y15 at rq oq ⊢
  have R_16 : Row y15 R 50 (u8s dd) := rq.congr (allH KD.out)
  have bel_16 : Below w.heap.size w y15 := below_only bel_14 oq geR bel_14.size
  clear R_14 bel_14 oq
  clear rq
  refine ⟨trivial, ?_⟩
  refine wpAnyH_done (by kernel_rfl) ?_ _
  go_wp2_with fail
  exact bodyPost_ret (v := .agg (u8s dd).toArray) (result_row (p := 6) (ty := 50) (u := 50) (by kernel_rfl) _ _ R (u8s dd) rfl R_16 (szH KD.out)) rfl ⟨rfl, bel_16⟩
end Go.Proofs.YtpebadhknpohkaaDoor.Tr
