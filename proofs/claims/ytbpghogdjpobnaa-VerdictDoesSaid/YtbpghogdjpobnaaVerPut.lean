/-
  The contract of package verdict's Put. Over this seat's translation.
-/
import Derived.Test.YtbpghogdjpobnaaVerGive
namespace Go.Proofs.Ytbpghogdjpobnaa.Vd
open Go.ChangeShapes Go.WideShapes Go.ChangeAt Go.RowKit Go.Proofs.Ytbpghogdjpobnaa.Mem Go.Proofs.Ytbpghogdjpobnaa.Bt Go.Proofs.Ytbpghogdjpobnaa.Km
open Go.Proofs.Ytbpghogdjpobnaa.Ep (H32 zh zh_ok Has h_len szH zH fitH allH one_app)
open Go.Proofs.Ytbpghogdjpobnaa.Sl (Kind Own At bk)
set_option linter.unusedVariables false
set_option linter.unusedSimpArgs false

structure PutPost (w : World) (F : Nat → Prop) (B r : Nat) (L : VL) (h : List Nat) (b : Bool) (e : Ending) (w' : World) : Prop where
  ret : e = .returned (.tuple #[.agg (u8s (goneV r L h)).toArray, .bool (fullV r L h)])
  ex : ∃ F', CAt w' F' B r (putV r L h b) ∧ Grew F F' w.heap.size
  chg : Chg F w w'
theorem built_ver (b : Bool) : Try.prog.built 53 [(0, .bool b)] = some #[Value.bool b] := by kernel_rfl
theorem look_some {L : VL} {h : List Nat} (hi : h ∈ keys L) : (getV L h).isSome = true := get_in.2 hi
set_option maxHeartbeats 4000000 in
set_option maxRecDepth 100000 in
theorem put_any (F : Nat → Prop) (B r : Nat) (L : VL) (h : List Nat) (b : Bool) (w : World) (hC : CAt w F B r L) (hh : H32 h) (hr : r ≤ 100) :
    Calls Try.prog 9 #[.pointer (some ⟨B, 0, none⟩), .agg (u8s h).toArray, .bool b] w (PutPost w F B r L h b) := by
  have KH := Lib.hid hh
  have HH : Hid (hashOk h) := Lib.hid hh.len
  have HV : Hid ((if true then Value.tuple #[((Km.look L h).map boolV).getD (boolV false), .bool (Km.look L h).isSome] else ((Km.look L h).map boolV).getD (boolV false)) = .tuple #[.agg #[.bool ((getV L h).getD false)], .bool (getV L h).isSome]) := Lib.hid (lookV L h)
  have HPO : Hid (VOk r (putV r L h b)) := Lib.hid (put_ok hC.ok hh b)
  have BV := Lib.hid (built_ver b)
  obtain ⟨v, hv⟩ : ∃ v, v = (getV L h).getD false := ⟨_, rfl⟩
  rw [← hv] at HV
  clear hv
  by_cases hi : h ∈ keys L
  · have HPV : Hid (putK L h b = putV r L h b) := Lib.hid ((put_old b hi).trans (put_in hi).symm)
    have HKL : Hid (keys (putV r L h b) = keys L) := Lib.hid (by rw [put_in hi, keys_set])
    have HG : Hid (goneV r L h = zh) := Lib.hid (by unfold goneV; rw [full_no hi]; rfl)
    have HF : Hid (fullV r L h = false) := Lib.hid (full_no hi)
    rw [look_some hi] at HV
    obtain ⟨⟨mb, p, cap, hB, hM, hO, fB, fm, fp⟩, hok, hli⟩ := hC
    have HLI := Lib.hid hli; have FP := Lib.hid fp
    clear hi hok hli hh
    go_enter Try.func9, Try.ntmps9
    have bel0 : Chg F w w := Chg.refl _ _
    go_wp2_with (first
      | ((with_reducible refine at_slot 4 ?_); (refine arm_box (o := ⟨some 4, _, _, _, _, _⟩) rfl _ _ rfl (u8s h) rfl ?_); intro X v1 Xe hv1 nv1; try simp only [Act.put, List.setIfInBounds_toArray, List.set_cons_zero, List.set_cons_succ])
      | ((with_reducible refine at_slot 6 ?_); (refine arm_alloc (o := ⟨some 6, _, _, _, _, _⟩) rfl _ rfl (u8s zh) zH ?_); intro R v2 Re hv2 nv2; try simp only [Act.put, List.setIfInBounds_toArray, List.set_cons_zero, List.set_cons_succ]))
    have hbv1 := nv1.below
    have rrv1 : Row v1 X 32 (u8s h) := hv1
    have hbv2 := nv2.below
    have rrv2 : Row v2 R 32 (u8s zh) := hv2
    have geX : w.heap.size ≤ X := by have := Xe.out; have := bel0.size; omega
    have lXx : w.heap.size ≤ X := by have := Xe.out; omega
    clear hv1 nv1 Xe
    have B_3 : Row v1 B 51 (ccs r mb p (keys L).length cap) := hB.old hbv1
    have M_3 : VMap v1 mb L := hM.old hbv1
    have O_3 : Own kH v1 0 p cap (keys L) := hO.below hbv1
    have bel_3 : Chg F w v1 := bel0.old hbv1
    clear hB hM hO bel0 hbv1
    have geR : w.heap.size ≤ R := by have := Re.out; have := bel_3.size; omega
    have ltXR : X < R := by have := Re.out; have := rrv1.lt; omega
    have lRx : v1.heap.size ≤ R := by have := Re.out; omega
    clear hv2 nv2 Re
    have B_4 : Row v2 B 51 (ccs r mb p (keys L).length cap) := B_3.old hbv2
    have M_4 : VMap v2 mb L := M_3.old hbv2
    have O_4 : Own kH v2 0 p cap (keys L) := O_3.below hbv2
    have X_4 : Row v2 X 32 (u8s h) := rrv1.old hbv2
    have bel_4 : Chg F w v2 := bel_3.old hbv2
    clear B_3 M_3 O_3 rrv1 bel_3 hbv2
    refine wp_region_held (S := fun w' => Row w' B 51 (ccs r mb p (keys L).length cap) ∧ VMap w' mb L ∧ Row w' X 32 (u8s h) ∧ True) (by kernel_rfl) ?_
    change wpAnyH _ _ _ _ _ _ _ _ v2.drew
    have hd5 : Below v2.heap.size v2 v2.drew := (Below.refl _ _).drew
    have B_6 : Row v2.drew B 51 (ccs r mb p (keys L).length cap) := B_4.old hd5
    have M_6 : VMap v2.drew mb L := M_4.old hd5
    have O_6 : Own kH v2.drew 0 p cap (keys L) := O_4.below hd5
    have X_6 : Row v2.drew X 32 (u8s h) := X_4.old hd5
    have R_6 : Row v2.drew R 32 (u8s zh) := rrv2.old hd5
    have bel_6 : Chg F w v2.drew := bel_4.old hd5
    clear B_4 M_4 O_4 X_4 rrv2 bel_4 hd5
    generalize v2.drew = yz5 at B_6 M_6 O_6 X_6 R_6 bel_6 ⊢
    refine h_take 0 (.pointer (some ⟨B, 0, none⟩)) rfl 13 rfl (by kernel_rfl) (by kernel_rfl) (by kernel_rfl) (by kernel_rfl) (fun _ _ _ h => h) (fun w' _ => by kernel_rfl) ⟨B_6, M_6, X_6, trivial⟩ ?_
    simp only [Act.put, List.setIfInBounds_toArray, List.set_cons_zero, List.set_cons_succ]
    refine h_take 1 (.pointer (some ⟨B, 0, none⟩)) rfl 14 rfl (by kernel_rfl) (by kernel_rfl) (by kernel_rfl) (by kernel_rfl) (fun _ _ _ h => h) (fun w' _ => by kernel_rfl) ⟨B_6, M_6, X_6, trivial⟩ ?_
    simp only [Act.put, List.setIfInBounds_toArray, List.set_cons_zero, List.set_cons_succ]
    refine h_take 2 (.pointer (some ⟨B, 1, none⟩)) rfl 15 rfl (by kernel_rfl) (by kernel_rfl) (by kernel_rfl) (by kernel_rfl) (fun _ _ _ h => h) (fun w' _ => by kernel_rfl) ⟨B_6, M_6, X_6, trivial⟩ ?_
    simp only [Act.put, List.setIfInBounds_toArray, List.set_cons_zero, List.set_cons_succ]
    refine h_take 3 (.map (some mb)) rfl 16 rfl (by kernel_rfl) (by kernel_rfl) (by kernel_rfl) (by kernel_rfl) (fun _ _ _ h => h) (fun w' hw => run_op_load1 _ _ rfl (.map 32 53) und_vm rfl ⟨B, 1, none⟩ rfl (.map (some mb)) (hw.1.cell (i := 1) rfl)) ⟨B_6, M_6, X_6, trivial⟩ ?_
    simp only [Act.put, List.setIfInBounds_toArray, List.set_cons_zero, List.set_cons_succ]
    refine h_take 4 (.agg (u8s h).toArray) rfl 17 rfl (by kernel_rfl) (by kernel_rfl) (by kernel_rfl) (by kernel_rfl) (fun _ _ _ h => h) (fun w' hw => run_op_load _ _ rfl X (0) rfl (u8s h) (((Has.refl _)).range hw.2.2.1) ((szH KH.out))) ⟨B_6, M_6, X_6, trivial⟩ ?_
    simp only [Act.put, List.setIfInBounds_toArray, List.set_cons_zero, List.set_cons_succ]
    refine h_take 5 (.tuple #[.agg #[.bool v], .bool true]) rfl 18 rfl (by kernel_rfl) (by kernel_rfl) (by kernel_rfl) (by kernel_rfl) (fun _ _ _ h => h) (fun w' hw => by rw [← HV.out]; exact run_op_lookupK _ _ _ true rfl rfl h HH.out rfl hw.2.1 hash_keys und_vm _ (zero_v _)) ⟨B_6, M_6, X_6, trivial⟩ ?_
    simp only [Act.put, List.setIfInBounds_toArray, List.set_cons_zero, List.set_cons_succ]
    refine h_take 6 (.tuple #[.agg #[.bool v], .bool true]) rfl 12 rfl (by kernel_rfl) (by kernel_rfl) (by kernel_rfl) (by kernel_rfl) (fun _ _ _ h => h) (fun w' _ => by kernel_rfl) ⟨B_6, M_6, X_6, trivial⟩ ?_
    simp only [Act.put, List.setIfInBounds_toArray, List.set_cons_zero, List.set_cons_succ]
    refine h_take 7 (.agg #[.bool v]) rfl 19 rfl (by kernel_rfl) (by kernel_rfl) (by kernel_rfl) (by kernel_rfl) (fun _ _ _ h => h) (fun w' _ => by kernel_rfl) ⟨B_6, M_6, X_6, trivial⟩ ?_
    simp only [Act.put, List.setIfInBounds_toArray, List.set_cons_zero, List.set_cons_succ]
    refine h_take 8 (.bool true) rfl 20 rfl (by kernel_rfl) (by kernel_rfl) (by kernel_rfl) (by kernel_rfl) (fun _ _ _ h => h) (fun w' _ => by kernel_rfl) ⟨B_6, M_6, X_6, trivial⟩ ?_
    simp only [Act.put, List.setIfInBounds_toArray, List.set_cons_zero, List.set_cons_succ]
    refine h_one (i := 9) (by kernel_rfl) (o_value _ rfl 8 rfl (by kernel_rfl) (run_op_alloc _ rfl [.bool false] z_ver) ?_)
    have hNy7 := (new_alloc yz5 (.cells ([.bool false] : List Value).toArray 53)).below
    have rNy7 : Row (yz5.alloc (.cells ([.bool false] : List Value).toArray 53)) yz5.heap.size 53 ([.bool false]) := heap_alloc_new _ _
    have geZ : w.heap.size ≤ yz5.heap.size := bel_6.size
    generalize yz5.alloc (.cells ([.bool false] : List Value).toArray 53) = y7 at hNy7 rNy7 ⊢
    have B_8 : Row y7 B 51 (ccs r mb p (keys L).length cap) := B_6.old hNy7
    have M_8 : VMap y7 mb L := M_6.old hNy7
    have O_8 : Own kH y7 0 p cap (keys L) := O_6.below hNy7
    have X_8 : Row y7 X 32 (u8s h) := X_6.old hNy7
    have R_8 : Row y7 R 32 (u8s zh) := R_6.old hNy7
    have bel_8 : Chg F w y7 := bel_6.old hNy7
    clear B_6 M_6 O_6 X_6 R_6 bel_6 hNy7
    generalize yz5.heap.size = Z at rNy7 geZ ⊢
    refine ⟨⟨B_8, M_8, X_8, trivial⟩, ?_⟩
    simp only [Act.put, List.setIfInBounds_toArray, List.set_cons_zero, List.set_cons_succ]
    refine h_one (i := 10) (by kernel_rfl) (o_skip rfl rfl (by kernel_rfl) (run_op_store _ _ _ rfl Z (0) rfl ([.bool v]) rfl _ _ rNy7 (Nat.le_refl 1) (one_bool _) (sz_ver v)) ?_)
    have rq := row_setRow rNy7 (lay ([.bool false]) (0) ([.bool v]))
    have oq := Only.setRow Z y7 (lay ([.bool false]) (0) ([.bool v])).toArray
    generalize y7.setRow Z (lay ([.bool false]) (0) ([.bool v])).toArray = y9 at rq oq ⊢
    have B_10 : Row y9 B 51 (ccs r mb p (keys L).length cap) := B_8.only oq (B_8.ne_type rNy7 (by decide))
    have M_10 : VMap y9 mb L := M_8.only oq (M_8.row rNy7)
    have O_10 : Own kH y9 0 p cap (keys L) := O_8.only oq (O_8.ne rNy7 (by decide))
    have X_10 : Row y9 X 32 (u8s h) := X_8.only oq (X_8.ne_type rNy7 (by decide))
    have R_10 : Row y9 R 32 (u8s zh) := R_8.only oq (R_8.ne_type rNy7 (by decide))
    have Z_10 : Row y9 Z 53 ([.bool v]) := rq.congr (lay_all [.bool false] [.bool v] rfl)
    have bel_10 : Chg F w y9 := bel_8.new oq (geZ)
    clear B_8 M_8 O_8 X_8 R_8 rNy7 bel_8 oq
    clear rq
    refine ⟨⟨B_10, M_10, X_10, trivial⟩, ?_⟩
    refine h_take 11 (.bool true) rfl 9 rfl (by kernel_rfl) (by kernel_rfl) (by kernel_rfl) (by kernel_rfl) (fun _ _ _ h => h) (fun w' _ => by kernel_rfl) ⟨B_10, M_10, X_10, trivial⟩ ?_
    simp only [Act.put, List.setIfInBounds_toArray, List.set_cons_zero, List.set_cons_succ]
    refine wpAnyH_done (by kernel_rfl) ?_ _
    clear Z_10
    go_wp2_with fail
    refine wp_region_held (S := fun w' => Row w' B 51 (ccs r mb p (keys L).length cap) ∧ Row w' X 32 (u8s h) ∧ True) (by kernel_rfl) ?_
    change wpAnyH _ _ _ _ _ _ _ _ y9.drew
    have hd11 : Below y9.heap.size y9 y9.drew := (Below.refl _ _).drew
    have B_12 : Row y9.drew B 51 (ccs r mb p (keys L).length cap) := B_10.old hd11
    have M_12 : VMap y9.drew mb L := M_10.old hd11
    have O_12 : Own kH y9.drew 0 p cap (keys L) := O_10.below hd11
    have X_12 : Row y9.drew X 32 (u8s h) := X_10.old hd11
    have R_12 : Row y9.drew R 32 (u8s zh) := R_10.old hd11
    have bel_12 : Chg F w y9.drew := bel_10.old hd11
    clear B_10 M_10 O_10 X_10 R_10 bel_10 hd11
    generalize y9.drew = yz11 at B_12 M_12 O_12 X_12 R_12 bel_12 ⊢
    refine h_take 0 (.pointer (some ⟨B, 0, none⟩)) rfl 22 rfl (by kernel_rfl) (by kernel_rfl) (by kernel_rfl) (by kernel_rfl) (fun _ _ _ h => h) (fun w' _ => by kernel_rfl) ⟨B_12, X_12, trivial⟩ ?_
    simp only [Act.put, List.setIfInBounds_toArray, List.set_cons_zero, List.set_cons_succ]
    refine h_take 1 (.pointer (some ⟨B, 0, none⟩)) rfl 23 rfl (by kernel_rfl) (by kernel_rfl) (by kernel_rfl) (by kernel_rfl) (fun _ _ _ h => h) (fun w' _ => by kernel_rfl) ⟨B_12, X_12, trivial⟩ ?_
    simp only [Act.put, List.setIfInBounds_toArray, List.set_cons_zero, List.set_cons_succ]
    refine h_take 2 (.pointer (some ⟨B, 1, none⟩)) rfl 24 rfl (by kernel_rfl) (by kernel_rfl) (by kernel_rfl) (by kernel_rfl) (fun _ _ _ h => h) (fun w' _ => by kernel_rfl) ⟨B_12, X_12, trivial⟩ ?_
    simp only [Act.put, List.setIfInBounds_toArray, List.set_cons_zero, List.set_cons_succ]
    refine h_take 3 (.map (some mb)) rfl 25 rfl (by kernel_rfl) (by kernel_rfl) (by kernel_rfl) (by kernel_rfl) (fun _ _ _ h => h) (fun w' hw => run_op_load1 _ _ rfl (.map 32 53) und_vm rfl ⟨B, 1, none⟩ rfl (.map (some mb)) (hw.1.cell (i := 1) rfl)) ⟨B_12, X_12, trivial⟩ ?_
    simp only [Act.put, List.setIfInBounds_toArray, List.set_cons_zero, List.set_cons_succ]
    refine h_take 4 (.agg (u8s h).toArray) rfl 26 rfl (by kernel_rfl) (by kernel_rfl) (by kernel_rfl) (by kernel_rfl) (fun _ _ _ h => h) (fun w' hw => run_op_load _ _ rfl X (0) rfl (u8s h) (((Has.refl _)).range hw.2.1) ((szH KH.out))) ⟨B_12, X_12, trivial⟩ ?_
    simp only [Act.put, List.setIfInBounds_toArray, List.set_cons_zero, List.set_cons_succ]
    refine h_take 5 (.bool b) rfl 27 rfl (by kernel_rfl) (by kernel_rfl) (by kernel_rfl) (by kernel_rfl) (fun _ _ _ h => h) (fun w' _ => by kernel_rfl) ⟨B_12, X_12, trivial⟩ ?_
    simp only [Act.put, List.setIfInBounds_toArray, List.set_cons_zero, List.set_cons_succ]
    refine h_take 6 (.agg #[.bool b]) rfl 28 rfl (by kernel_rfl) (by kernel_rfl) (by kernel_rfl) (by kernel_rfl) (fun _ _ _ h => h) (fun w' _ => run_op_build _ _ rfl [Value.bool b] (by simp only [List.map_toArray, List.map_cons, List.map_nil]; exact BV.out) w') ⟨B_12, X_12, trivial⟩ ?_
    simp only [Act.put, List.setIfInBounds_toArray, List.set_cons_zero, List.set_cons_succ]
    refine h_one (i := 7) (by kernel_rfl) (o_updateK rfl rfl (by kernel_rfl) _ _ _ _ rfl rfl h HH.out rfl b rfl M_12 hash_keys und_vm ?_)
    intro yU hmU hoU hsU
    clear hsU
    rw [HPV.out] at hmU
    have B_13 : Row yU B 51 (ccs r mb p (keys L).length cap) := B_12.only hoU (Ne.symm (M_12.row B_12))
    have M_13 : VMap yU mb (putV r L h b) := hmU
    have O_13 : Own kH yU 0 p cap (keys L) := O_12.only hoU (O_12.ne_map M_12)
    have X_13 : Row yU X 32 (u8s h) := X_12.only hoU (Ne.symm (M_12.row X_12))
    have R_13 : Row yU R 32 (u8s zh) := R_12.only hoU (Ne.symm (M_12.row R_12))
    have bel_13 : Chg F w yU := bel_12.only hoU (fm)
    clear B_12 M_12 O_12 X_12 R_12 bel_12 hoU
    refine ⟨⟨B_13, X_13, trivial⟩, ?_⟩
    refine wpAnyH_done (by kernel_rfl) ?_ _
    go_wp2_with (first
      | ((with_reducible refine at_slot 29 ?_); (refine arm_build (o := ⟨some 29, _, _, _, _, _⟩) rfl _ _ rfl (u8s zh) (by kernel_rfl) ?_); try simp only [Act.put, List.setIfInBounds_toArray, List.set_cons_zero, List.set_cons_succ])
      | ((with_reducible refine arm_store (o := ⟨none, _, _, _, _, _⟩) rfl _ _ _ rfl R 0 rfl (u8s zh) rfl _ _ R_13 (fitH zh_ok) (u8s_one _) (szH zh_ok) ?_); intro yS hS oS sS; try simp only [Act.put, List.setIfInBounds_toArray, List.set_cons_zero, List.set_cons_succ]))
    have hMR := M_13.row R_13
    have hBR := B_13.ne_type R_13 (by decide)
    have hli2 : ∀ k, F k → k ≠ R := fun k hk e => by have := HLI.out k hk; omega
    have hok2 : Own kH yS 0 p cap (keys (putV r L h b)) := by rw [HKL.out]; exact O_13.only oS (fun e => hli2 R (FP.out R e) rfl)
    have hb2 : Row yS B 51 (ccs r mb p (keys (putV r L h b)).length cap) := by rw [HKL.out]; exact B_13.only oS hBR
    refine bodyPost_ret (result_row2 (p := 6) (u := 7) (ty := 32) (t := 32) (by kernel_rfl) _ _ R (u8s zh) (.bool false) rfl rfl (hS.congr (allH zh_ok)) (szH zh_ok)) rfl ?_
    have hs := bel_13.size
    exact ⟨by rw [HG.out, HF.out], ⟨F, ⟨⟨mb, p, cap, hb2, M_13.only oS hMR, hok2, fB, fm, FP.out⟩, HPO.out, fun k hk => Nat.lt_of_lt_of_le (HLI.out k hk) (Nat.le_trans hs oS.size)⟩, Grew.refl _ _⟩, bel_13.new oS geR⟩
  · have HNI : Hid (h ∉ keys (if L.length < r then L else L.tail)) := Lib.hid (by split; exact hi; exact fun q => hi (List.mem_of_mem_tail (keys_tail L ▸ q)))
    have HPV : Hid ((if L.length < r then L else L.tail) ++ [(h, b)] = putV r L h b) := Lib.hid (by
      split
      · rename_i hl; rw [put_room hi hl]
      · rename_i hl; rw [put_full hi hl])
    have HG : Hid (goneV r L h = if L.length < r then zh else (keys L).headD zh) := Lib.hid (by
      unfold goneV
      by_cases hl : L.length < r
      · rw [full_room hl, if_pos hl]; rfl
      · rw [full_yes hi hl, if_neg hl]; rfl)
    have HF : Hid (fullV r L h = decide (¬ L.length < r)) := Lib.hid (by
      by_cases hl : L.length < r
      · rw [full_room hl]; exact (decide_eq_false (fun q => q hl)).symm
      · rw [full_yes hi hl]; exact (decide_eq_true hl).symm)
    have HGO := Lib.hid (gone_ok hC.ok h)
    rw [get_none hi, show (none : Option Bool).isSome = false from rfl] at HV
    have CG : Hid (∀ w0, CAt w0 F B r L → Calls Try.prog 17 #[.pointer (some ⟨B, 0, none⟩)] w0 fun e w' => e = .returned (.tuple #[.agg (u8s (goneV r L h)).toArray, .bool (fullV r L h)]) ∧ (∃ F', CAt w' F' B r (if L.length < r then L else L.tail) ∧ Grew F F' w0.heap.size) ∧ Chg F w0 w') := Lib.hid fun w0 h0 => (give_any F B r L w0 h0).mono fun e w' q => ⟨by rw [HG.out, HF.out]; exact q.ret, q.ex, q.chg⟩
    clear HG HF
    obtain ⟨⟨mb, p, cap, hB, hM, hO, fB, fm, fp⟩, hok, hli⟩ := hC
    have HLI := Lib.hid hli; have HOK := Lib.hid hok; have FP := Lib.hid fp
    have FB := Lib.hid fB; have FM := Lib.hid fm
    obtain ⟨L1, hL1⟩ : ∃ L1, L1 = (if L.length < r then L else L.tail) := ⟨_, rfl⟩
    rw [← hL1] at HNI HPV CG
    have HPV2 : Hid (putK L1 h b = putV r L h b) := Lib.hid ((put_new b HNI.out).trans HPV.out)
    have HKL : Hid (keys L1 ++ [h] = keys (putV r L h b)) := Lib.hid (by rw [← HPV.out, keys_app])
    have LK1 : Hid ((keys L1).length + [h].length ≤ 1000000) := Lib.hid (by
      have h1 := hok.len
      have h2 : L1.length ≤ L.length := by rw [hL1]; split; exact Nat.le_refl _; rw [List.length_tail]; omega
      rw [keys_len, List.length_singleton]; omega)
    clear HNI HPV hL1 hi hh hok hli fp fB fm
    go_enter Try.func9, Try.ntmps9
    have bel0 : Chg F w w := Chg.refl _ _
    go_wp2_with (first
      | ((with_reducible refine at_slot 4 ?_); (refine arm_box (o := ⟨some 4, _, _, _, _, _⟩) rfl _ _ rfl (u8s h) rfl ?_); intro X v1 Xe hv1 nv1; try simp only [Act.put, List.setIfInBounds_toArray, List.set_cons_zero, List.set_cons_succ])
      | ((with_reducible refine at_slot 6 ?_); (refine arm_alloc (o := ⟨some 6, _, _, _, _, _⟩) rfl _ rfl (u8s zh) zH ?_); intro R v2 Re hv2 nv2; try simp only [Act.put, List.setIfInBounds_toArray, List.set_cons_zero, List.set_cons_succ]))
    have hbv1 := nv1.below
    have rrv1 : Row v1 X 32 (u8s h) := hv1
    have hbv2 := nv2.below
    have rrv2 : Row v2 R 32 (u8s zh) := hv2
    have geX : w.heap.size ≤ X := by have := Xe.out; have := bel0.size; omega
    have lXx : w.heap.size ≤ X := by have := Xe.out; omega
    clear hv1 nv1 Xe
    have B_3 : Row v1 B 51 (ccs r mb p (keys L).length cap) := hB.old hbv1
    have M_3 : VMap v1 mb L := hM.old hbv1
    have O_3 : Own kH v1 0 p cap (keys L) := hO.below hbv1
    have bel_3 : Chg F w v1 := bel0.old hbv1
    clear hB hM hO bel0 hbv1
    have geR : w.heap.size ≤ R := by have := Re.out; have := bel_3.size; omega
    have ltXR : X < R := by have := Re.out; have := rrv1.lt; omega
    have lRx : v1.heap.size ≤ R := by have := Re.out; omega
    clear hv2 nv2 Re
    have B_4 : Row v2 B 51 (ccs r mb p (keys L).length cap) := B_3.old hbv2
    have M_4 : VMap v2 mb L := M_3.old hbv2
    have O_4 : Own kH v2 0 p cap (keys L) := O_3.below hbv2
    have X_4 : Row v2 X 32 (u8s h) := rrv1.old hbv2
    have bel_4 : Chg F w v2 := bel_3.old hbv2
    clear B_3 M_3 O_3 rrv1 bel_3 hbv2
    refine wp_region_held (S := fun w' => Row w' B 51 (ccs r mb p (keys L).length cap) ∧ VMap w' mb L ∧ Row w' X 32 (u8s h) ∧ True) (by kernel_rfl) ?_
    change wpAnyH _ _ _ _ _ _ _ _ v2.drew
    have hd5 : Below v2.heap.size v2 v2.drew := (Below.refl _ _).drew
    have B_6 : Row v2.drew B 51 (ccs r mb p (keys L).length cap) := B_4.old hd5
    have M_6 : VMap v2.drew mb L := M_4.old hd5
    have O_6 : Own kH v2.drew 0 p cap (keys L) := O_4.below hd5
    have X_6 : Row v2.drew X 32 (u8s h) := X_4.old hd5
    have R_6 : Row v2.drew R 32 (u8s zh) := rrv2.old hd5
    have bel_6 : Chg F w v2.drew := bel_4.old hd5
    clear B_4 M_4 O_4 X_4 rrv2 bel_4 hd5
    generalize v2.drew = yz5 at B_6 M_6 O_6 X_6 R_6 bel_6 ⊢
    refine h_take 0 (.pointer (some ⟨B, 0, none⟩)) rfl 13 rfl (by kernel_rfl) (by kernel_rfl) (by kernel_rfl) (by kernel_rfl) (fun _ _ _ h => h) (fun w' _ => by kernel_rfl) ⟨B_6, M_6, X_6, trivial⟩ ?_
    simp only [Act.put, List.setIfInBounds_toArray, List.set_cons_zero, List.set_cons_succ]
    refine h_take 1 (.pointer (some ⟨B, 0, none⟩)) rfl 14 rfl (by kernel_rfl) (by kernel_rfl) (by kernel_rfl) (by kernel_rfl) (fun _ _ _ h => h) (fun w' _ => by kernel_rfl) ⟨B_6, M_6, X_6, trivial⟩ ?_
    simp only [Act.put, List.setIfInBounds_toArray, List.set_cons_zero, List.set_cons_succ]
    refine h_take 2 (.pointer (some ⟨B, 1, none⟩)) rfl 15 rfl (by kernel_rfl) (by kernel_rfl) (by kernel_rfl) (by kernel_rfl) (fun _ _ _ h => h) (fun w' _ => by kernel_rfl) ⟨B_6, M_6, X_6, trivial⟩ ?_
    simp only [Act.put, List.setIfInBounds_toArray, List.set_cons_zero, List.set_cons_succ]
    refine h_take 3 (.map (some mb)) rfl 16 rfl (by kernel_rfl) (by kernel_rfl) (by kernel_rfl) (by kernel_rfl) (fun _ _ _ h => h) (fun w' hw => run_op_load1 _ _ rfl (.map 32 53) und_vm rfl ⟨B, 1, none⟩ rfl (.map (some mb)) (hw.1.cell (i := 1) rfl)) ⟨B_6, M_6, X_6, trivial⟩ ?_
    simp only [Act.put, List.setIfInBounds_toArray, List.set_cons_zero, List.set_cons_succ]
    refine h_take 4 (.agg (u8s h).toArray) rfl 17 rfl (by kernel_rfl) (by kernel_rfl) (by kernel_rfl) (by kernel_rfl) (fun _ _ _ h => h) (fun w' hw => run_op_load _ _ rfl X (0) rfl (u8s h) (((Has.refl _)).range hw.2.2.1) ((szH KH.out))) ⟨B_6, M_6, X_6, trivial⟩ ?_
    simp only [Act.put, List.setIfInBounds_toArray, List.set_cons_zero, List.set_cons_succ]
    refine h_take 5 (.tuple #[.agg #[.bool v], .bool false]) rfl 18 rfl (by kernel_rfl) (by kernel_rfl) (by kernel_rfl) (by kernel_rfl) (fun _ _ _ h => h) (fun w' hw => by rw [← HV.out]; exact run_op_lookupK _ _ _ true rfl rfl h HH.out rfl hw.2.1 hash_keys und_vm _ (zero_v _)) ⟨B_6, M_6, X_6, trivial⟩ ?_
    simp only [Act.put, List.setIfInBounds_toArray, List.set_cons_zero, List.set_cons_succ]
    refine h_take 6 (.tuple #[.agg #[.bool v], .bool false]) rfl 12 rfl (by kernel_rfl) (by kernel_rfl) (by kernel_rfl) (by kernel_rfl) (fun _ _ _ h => h) (fun w' _ => by kernel_rfl) ⟨B_6, M_6, X_6, trivial⟩ ?_
    simp only [Act.put, List.setIfInBounds_toArray, List.set_cons_zero, List.set_cons_succ]
    refine h_take 7 (.agg #[.bool v]) rfl 19 rfl (by kernel_rfl) (by kernel_rfl) (by kernel_rfl) (by kernel_rfl) (fun _ _ _ h => h) (fun w' _ => by kernel_rfl) ⟨B_6, M_6, X_6, trivial⟩ ?_
    simp only [Act.put, List.setIfInBounds_toArray, List.set_cons_zero, List.set_cons_succ]
    refine h_take 8 (.bool false) rfl 20 rfl (by kernel_rfl) (by kernel_rfl) (by kernel_rfl) (by kernel_rfl) (fun _ _ _ h => h) (fun w' _ => by kernel_rfl) ⟨B_6, M_6, X_6, trivial⟩ ?_
    simp only [Act.put, List.setIfInBounds_toArray, List.set_cons_zero, List.set_cons_succ]
    refine h_one (i := 9) (by kernel_rfl) (o_value _ rfl 8 rfl (by kernel_rfl) (run_op_alloc _ rfl [.bool false] z_ver) ?_)
    have hNy7 := (new_alloc yz5 (.cells ([.bool false] : List Value).toArray 53)).below
    have rNy7 : Row (yz5.alloc (.cells ([.bool false] : List Value).toArray 53)) yz5.heap.size 53 ([.bool false]) := heap_alloc_new _ _
    have geZ : w.heap.size ≤ yz5.heap.size := bel_6.size
    generalize yz5.alloc (.cells ([.bool false] : List Value).toArray 53) = y7 at hNy7 rNy7 ⊢
    have B_8 : Row y7 B 51 (ccs r mb p (keys L).length cap) := B_6.old hNy7
    have M_8 : VMap y7 mb L := M_6.old hNy7
    have O_8 : Own kH y7 0 p cap (keys L) := O_6.below hNy7
    have X_8 : Row y7 X 32 (u8s h) := X_6.old hNy7
    have R_8 : Row y7 R 32 (u8s zh) := R_6.old hNy7
    have bel_8 : Chg F w y7 := bel_6.old hNy7
    clear B_6 M_6 O_6 X_6 R_6 bel_6 hNy7
    generalize yz5.heap.size = Z at rNy7 geZ ⊢
    refine ⟨⟨B_8, M_8, X_8, trivial⟩, ?_⟩
    simp only [Act.put, List.setIfInBounds_toArray, List.set_cons_zero, List.set_cons_succ]
    refine h_one (i := 10) (by kernel_rfl) (o_skip rfl rfl (by kernel_rfl) (run_op_store _ _ _ rfl Z (0) rfl ([.bool v]) rfl _ _ rNy7 (Nat.le_refl 1) (one_bool _) (sz_ver v)) ?_)
    have rq := row_setRow rNy7 (lay ([.bool false]) (0) ([.bool v]))
    have oq := Only.setRow Z y7 (lay ([.bool false]) (0) ([.bool v])).toArray
    generalize y7.setRow Z (lay ([.bool false]) (0) ([.bool v])).toArray = y9 at rq oq ⊢
    have B_10 : Row y9 B 51 (ccs r mb p (keys L).length cap) := B_8.only oq (B_8.ne_type rNy7 (by decide))
    have M_10 : VMap y9 mb L := M_8.only oq (M_8.row rNy7)
    have O_10 : Own kH y9 0 p cap (keys L) := O_8.only oq (O_8.ne rNy7 (by decide))
    have X_10 : Row y9 X 32 (u8s h) := X_8.only oq (X_8.ne_type rNy7 (by decide))
    have R_10 : Row y9 R 32 (u8s zh) := R_8.only oq (R_8.ne_type rNy7 (by decide))
    have Z_10 : Row y9 Z 53 ([.bool v]) := rq.congr (lay_all [.bool false] [.bool v] rfl)
    have bel_10 : Chg F w y9 := bel_8.new oq (geZ)
    clear B_8 M_8 O_8 X_8 R_8 rNy7 bel_8 oq
    clear rq
    refine ⟨⟨B_10, M_10, X_10, trivial⟩, ?_⟩
    refine h_take 11 (.bool false) rfl 9 rfl (by kernel_rfl) (by kernel_rfl) (by kernel_rfl) (by kernel_rfl) (fun _ _ _ h => h) (fun w' _ => by kernel_rfl) ⟨B_10, M_10, X_10, trivial⟩ ?_
    simp only [Act.put, List.setIfInBounds_toArray, List.set_cons_zero, List.set_cons_succ]
    refine wpAnyH_done (by kernel_rfl) ?_ _
    clear Z_10
    go_wp2_with fail
    have hCz : CAt y9 F B r L := ⟨⟨mb, p, cap, B_10, M_10, O_10, FB.out, FM.out, FP.out⟩, HOK.out, HLI.out.mono bel_10.size⟩
    have nX : ¬ F X := fun q => by have := HLI.out X q; omega
    have nR : ¬ F R := fun q => by have := HLI.out R q; omega
    have xl := X_10.lt; have rl := R_10.lt
    have wz := bel_10.size
    clear B_10
    clear M_10
    clear O_10
    refine (CG.out _ hCz).mono ?_
    rintro e yG ⟨rfl, ⟨F2, hC2, hG2⟩, hc2⟩
    have nX2 := notF_grew nX hG2 xl; have nR2 := notF_grew nR hG2 rl
    have hGw := hG2.less wz
    clear hCz hG2 xl rl wz
    have X_11 : Row yG X 32 (u8s h) := X_10.chg hc2 nX
    have R_11 : Row yG R 32 (u8s zh) := R_10.chg hc2 nR
    have bel_11 : Chg F w yG := bel_10.step hc2
    clear X_10 R_10 bel_10 hc2
    have HL2 := Lib.hid hC2.lies
    have hZ0 : yG.heap.size ≤ yG.heap.size := Nat.le_refl _
    go_wp2_with (first
      | ((with_reducible refine at_slot 10 ?_); (refine arm_alloc (o := ⟨some 10, _, _, _, _, _⟩) rfl _ rfl (u8s zh) zH ?_); intro Y v12a Ye hYa nY; try simp only [Act.put, List.setIfInBounds_toArray, List.set_cons_zero, List.set_cons_succ])
      | ((with_reducible refine arm_store (o := ⟨none, _, _, _, _, _⟩) rfl _ _ _ rfl Y 0 rfl (u8s (goneV r L h)) rfl _ _ hYa (fitH HGO.out) (u8s_one _) (szH HGO.out) ?_); intro v12 hYb oY sY; try simp only [Act.put, List.setIfInBounds_toArray, List.set_cons_zero, List.set_cons_succ]; refine fpause ?_; try simp only [Act.put, List.setIfInBounds_toArray, List.set_cons_zero, List.set_cons_succ]))
    have lY : yG.heap.size ≤ Y := by have := Ye.out; omega
    have bY : Below yG.heap.size yG v12 := below_only nY.below oY lY nY.below.size
    have rrY : Row v12 Y 32 (u8s (goneV r L h)) := hYb.congr (allH HGO.out)
    have geY : w.heap.size ≤ Y := Nat.le_trans bel_11.size lY
    have lYx := lY
    clear hYa hYb nY oY sY Ye lY
    have X_13 : Row v12 X 32 (u8s h) := X_11.old bY
    have R_13 : Row v12 R 32 (u8s zh) := R_11.old bY
    have C_13 : CAt v12 F2 B r L1 := hC2.old bY
    have Z_13 : yG.heap.size ≤ v12.heap.size := Nat.le_trans hZ0 bY.size
    have bel_13 : Chg F w v12 := bel_11.old bY
    clear X_11 R_11 hC2 hZ0 bel_11 bY
    refine fgo ?_
    obtain ⟨⟨mb2, p2, cap2, hB2, hM2, hO2, fB2, fm2, fp2⟩, hok2, hli2⟩ := C_13
    have nY2 : ¬ F2 Y := fun q => by have := HL2.out Y q; omega
    clear hok2 hli2
    go_wp2_with fail
    refine wp_region_held (S := fun w' => Row w' B 51 (ccs r mb2 p2 (keys L1).length cap2) ∧ Row w' X 32 (u8s h) ∧ True) (by kernel_rfl) ?_
    change wpAnyH _ _ _ _ _ _ _ _ v12.drew
    have hd14 : Below v12.heap.size v12 v12.drew := (Below.refl _ _).drew
    have X_15 : Row v12.drew X 32 (u8s h) := X_13.old hd14
    have R_15 : Row v12.drew R 32 (u8s zh) := R_13.old hd14
    have Z_15 : yG.heap.size ≤ v12.drew.heap.size := Nat.le_trans Z_13 hd14.size
    have Y_15 : Row v12.drew Y 32 (u8s (goneV r L h)) := rrY.old hd14
    have B_15 : Row v12.drew B 51 (ccs r mb2 p2 (keys L1).length cap2) := hB2.old hd14
    have M_15 : VMap v12.drew mb2 L1 := hM2.old hd14
    have O_15 : Own kH v12.drew 0 p2 cap2 (keys L1) := hO2.below hd14
    have bel_15 : Chg F w v12.drew := bel_13.old hd14
    clear X_13 R_13 Z_13 rrY hB2 hM2 hO2 bel_13 hd14
    generalize v12.drew = yz14 at X_15 R_15 Z_15 Y_15 B_15 M_15 O_15 bel_15 ⊢
    refine h_take 0 (.pointer (some ⟨B, 0, none⟩)) rfl 35 rfl (by kernel_rfl) (by kernel_rfl) (by kernel_rfl) (by kernel_rfl) (fun _ _ _ h => h) (fun w' _ => by kernel_rfl) ⟨B_15, X_15, trivial⟩ ?_
    simp only [Act.put, List.setIfInBounds_toArray, List.set_cons_zero, List.set_cons_succ]
    refine h_take 1 (.pointer (some ⟨B, 0, none⟩)) rfl 36 rfl (by kernel_rfl) (by kernel_rfl) (by kernel_rfl) (by kernel_rfl) (fun _ _ _ h => h) (fun w' _ => by kernel_rfl) ⟨B_15, X_15, trivial⟩ ?_
    simp only [Act.put, List.setIfInBounds_toArray, List.set_cons_zero, List.set_cons_succ]
    refine h_take 2 (.pointer (some ⟨B, 1, none⟩)) rfl 37 rfl (by kernel_rfl) (by kernel_rfl) (by kernel_rfl) (by kernel_rfl) (fun _ _ _ h => h) (fun w' _ => by kernel_rfl) ⟨B_15, X_15, trivial⟩ ?_
    simp only [Act.put, List.setIfInBounds_toArray, List.set_cons_zero, List.set_cons_succ]
    refine h_take 3 (.map (some mb2)) rfl 38 rfl (by kernel_rfl) (by kernel_rfl) (by kernel_rfl) (by kernel_rfl) (fun _ _ _ h => h) (fun w' hw => run_op_load1 _ _ rfl (.map 32 53) und_vm rfl ⟨B, 1, none⟩ rfl (.map (some mb2)) (hw.1.cell (i := 1) rfl)) ⟨B_15, X_15, trivial⟩ ?_
    simp only [Act.put, List.setIfInBounds_toArray, List.set_cons_zero, List.set_cons_succ]
    refine h_take 4 (.agg (u8s h).toArray) rfl 39 rfl (by kernel_rfl) (by kernel_rfl) (by kernel_rfl) (by kernel_rfl) (fun _ _ _ h => h) (fun w' hw => run_op_load _ _ rfl X (0) rfl (u8s h) (((Has.refl _)).range hw.2.1) ((szH KH.out))) ⟨B_15, X_15, trivial⟩ ?_
    simp only [Act.put, List.setIfInBounds_toArray, List.set_cons_zero, List.set_cons_succ]
    refine h_take 5 (.bool b) rfl 40 rfl (by kernel_rfl) (by kernel_rfl) (by kernel_rfl) (by kernel_rfl) (fun _ _ _ h => h) (fun w' _ => by kernel_rfl) ⟨B_15, X_15, trivial⟩ ?_
    simp only [Act.put, List.setIfInBounds_toArray, List.set_cons_zero, List.set_cons_succ]
    refine h_take 6 (.agg #[.bool b]) rfl 41 rfl (by kernel_rfl) (by kernel_rfl) (by kernel_rfl) (by kernel_rfl) (fun _ _ _ h => h) (fun w' _ => run_op_build _ _ rfl [Value.bool b] (by simp only [List.map_toArray, List.map_cons, List.map_nil]; exact BV.out) w') ⟨B_15, X_15, trivial⟩ ?_
    simp only [Act.put, List.setIfInBounds_toArray, List.set_cons_zero, List.set_cons_succ]
    refine h_one (i := 7) (by kernel_rfl) (o_updateK rfl rfl (by kernel_rfl) _ _ _ _ rfl rfl h HH.out rfl b rfl M_15 hash_keys und_vm ?_)
    intro yU hmU hoU hsU
    clear hsU
    rw [HPV2.out] at hmU
    have X_16 : Row yU X 32 (u8s h) := X_15.only hoU (Ne.symm (M_15.row X_15))
    have R_16 : Row yU R 32 (u8s zh) := R_15.only hoU (Ne.symm (M_15.row R_15))
    have Z_16 : yG.heap.size ≤ yU.heap.size := Nat.le_trans Z_15 hoU.size
    have Y_16 : Row yU Y 32 (u8s (goneV r L h)) := Y_15.only hoU (Ne.symm (M_15.row Y_15))
    have B_16 : Row yU B 51 (ccs r mb2 p2 (keys L1).length cap2) := B_15.only hoU (Ne.symm (M_15.row B_15))
    have M_16 : VMap yU mb2 (putV r L h b) := hmU
    have O_16 : Own kH yU 0 p2 cap2 (keys L1) := O_15.only hoU (O_15.ne_map M_15)
    have bel_16 : Chg F w yU := bel_15.trans (Chg.of_only hoU fm2) hGw
    clear X_15 R_15 Z_15 Y_15 B_15 M_15 O_15 bel_15 hoU
    refine ⟨⟨B_16, X_16, trivial⟩, ?_⟩
    refine wpAnyH_done (by kernel_rfl) ?_ _
    go_wp2_with fail
    refine wp_region_held (S := fun w' => Row w' X 32 (u8s h) ∧ True) (by kernel_rfl) ?_
    change wpAnyH _ _ _ _ _ _ _ _ yU.drew
    have hd17 : Below yU.heap.size yU yU.drew := (Below.refl _ _).drew
    have X_18 : Row yU.drew X 32 (u8s h) := X_16.old hd17
    have R_18 : Row yU.drew R 32 (u8s zh) := R_16.old hd17
    have Z_18 : yG.heap.size ≤ yU.drew.heap.size := Nat.le_trans Z_16 hd17.size
    have Y_18 : Row yU.drew Y 32 (u8s (goneV r L h)) := Y_16.old hd17
    have B_18 : Row yU.drew B 51 (ccs r mb2 p2 (keys L1).length cap2) := B_16.old hd17
    have M_18 : VMap yU.drew mb2 (putV r L h b) := M_16.old hd17
    have O_18 : Own kH yU.drew 0 p2 cap2 (keys L1) := O_16.below hd17
    have bel_18 : Chg F w yU.drew := bel_16.old hd17
    clear X_16 R_16 Z_16 Y_16 B_16 M_16 O_16 bel_16 hd17
    generalize yU.drew = yz17 at X_18 R_18 Z_18 Y_18 B_18 M_18 O_18 bel_18 ⊢
    refine h_take 0 (.pointer (some ⟨B, 0, none⟩)) rfl 42 rfl (by kernel_rfl) (by kernel_rfl) (by kernel_rfl) (by kernel_rfl) (fun _ _ _ h => h) (fun w' _ => by kernel_rfl) ⟨X_18, trivial⟩ ?_
    simp only [Act.put, List.setIfInBounds_toArray, List.set_cons_zero, List.set_cons_succ]
    refine h_take 1 (.pointer (some ⟨B, 0, none⟩)) rfl 43 rfl (by kernel_rfl) (by kernel_rfl) (by kernel_rfl) (by kernel_rfl) (fun _ _ _ h => h) (fun w' _ => by kernel_rfl) ⟨X_18, trivial⟩ ?_
    simp only [Act.put, List.setIfInBounds_toArray, List.set_cons_zero, List.set_cons_succ]
    refine h_take 2 (.pointer (some ⟨B, 0, none⟩)) rfl 44 rfl (by kernel_rfl) (by kernel_rfl) (by kernel_rfl) (by kernel_rfl) (fun _ _ _ h => h) (fun w' _ => by kernel_rfl) ⟨X_18, trivial⟩ ?_
    simp only [Act.put, List.setIfInBounds_toArray, List.set_cons_zero, List.set_cons_succ]
    refine h_take 3 (.pointer (some ⟨B, 2, none⟩)) rfl 45 rfl (by kernel_rfl) (by kernel_rfl) (by kernel_rfl) (by kernel_rfl) (fun _ _ _ h => h) (fun w' _ => by kernel_rfl) ⟨X_18, trivial⟩ ?_
    simp only [Act.put, List.setIfInBounds_toArray, List.set_cons_zero, List.set_cons_succ]
    refine h_take 5 (.agg (u8s h).toArray) rfl 47 rfl (by kernel_rfl) (by kernel_rfl) (by kernel_rfl) (by kernel_rfl) (fun _ _ _ h => h) (fun w' hw => run_op_load _ _ rfl X (0) rfl (u8s h) (((Has.refl _)).range hw.1) ((szH KH.out))) ⟨X_18, trivial⟩ ?_
    simp only [Act.put, List.setIfInBounds_toArray, List.set_cons_zero, List.set_cons_succ]
    refine h_two (i := 4) (j := 6) (by kernel_rfl) ?_ ?_
    · skip
      refine o_value (.slice p2 (keys L1).length cap2) rfl 46 rfl (by kernel_rfl) (run_op_load1 _ _ rfl (.slice 32) fH.und rfl ⟨B, 2, none⟩ rfl (.slice p2 (keys L1).length cap2) (B_18.cell (i := 2) rfl)) ?_
      refine ⟨⟨X_18, trivial⟩, ?_⟩
      simp only [Act.put, List.setIfInBounds_toArray, List.set_cons_zero, List.set_cons_succ]
      refine h_one (i := 6) (by kernel_rfl) (o_value _ rfl 48 rfl (by kernel_rfl) (Sl.run_op_lit fH [h] (Sl.allOk_cons KH.out Sl.allOk_nil) (by simp) 1 _ rfl rfl (by simp only [List.map_toArray, List.map_cons, List.map_nil]; rfl)) ?_)
      have hNy19 := (new_alloc yz17 (.cells (Sl.Kind.all kH [h]).toArray 32)).below
      have rNy19 : Row (yz17.alloc (.cells (Sl.Kind.all kH [h]).toArray 32)) yz17.heap.size 32 (Sl.Kind.all kH [h]) := heap_alloc_new _ _
      have geN : w.heap.size ≤ yz17.heap.size := bel_18.size
      generalize yz17.alloc (.cells (Sl.Kind.all kH [h]).toArray 32) = y19 at hNy19 rNy19 ⊢
      have X_20 : Row y19 X 32 (u8s h) := X_18.old hNy19
      have R_20 : Row y19 R 32 (u8s zh) := R_18.old hNy19
      have Z_20 : yG.heap.size ≤ y19.heap.size := Nat.le_trans Z_18 hNy19.size
      have Y_20 : Row y19 Y 32 (u8s (goneV r L h)) := Y_18.old hNy19
      have B_20 : Row y19 B 51 (ccs r mb2 p2 (keys L1).length cap2) := B_18.old hNy19
      have M_20 : VMap y19 mb2 (putV r L h b) := M_18.old hNy19
      have O_20 : Own kH y19 0 p2 cap2 (keys L1) := O_18.below hNy19
      have bel_20 : Chg F w y19 := bel_18.old hNy19
      clear X_18 R_18 Z_18 Y_18 B_18 M_18 O_18 bel_18 hNy19
      generalize yz17.heap.size = N at rNy19 geN ⊢
      refine ⟨⟨X_20, trivial⟩, ?_⟩
      simp only [Act.put, List.setIfInBounds_toArray, List.set_cons_zero, List.set_cons_succ]
      have atN : At kH y19 (some ⟨N, 0, none⟩) [h] := Sl.At.row (c := []) fH (Sl.allOk_cons KH.out Sl.allOk_nil) rNy19 (List.append_nil _).symm
      have hszN := bel_20.size
      refine h_one (i := 7) (by kernel_rfl) (Sl.o_appendQ rfl 49 rfl (by kernel_rfl) fH _ _ rfl 0 p2 _ cap2 (keys L1) rfl rfl O_20 (some ⟨N, 0, none⟩) 1 1 [h] rfl rfl atN LK1.out (Nat.zero_le _) ?_)
      intro p3 cap3 yA hOA hBA hkA hbA
      have hcA := Sl.chg_app hBA hkA
      have hbA2 : bk p3 = bk p2 ∨ ∃ g, bk p3 = some g ∧ w.heap.size ≤ g ∧ R < g := hbA.out.imp id (fun q => ⟨_, q, hszN, R_20.lt⟩)
      rw [HKL.out] at hOA
      clear hBA hkA hbA atN hszN
      clear rNy19
      have X_21 : Row yA X 32 (u8s h) := X_20.chg hcA (fun q => nX2 (fp2 _ q))
      have R_21 : Row yA R 32 (u8s zh) := R_20.chg hcA (fun q => nR2 (fp2 _ q))
      have Z_21 : yG.heap.size ≤ yA.heap.size := Nat.le_trans Z_20 hcA.size
      have Y_21 : Row yA Y 32 (u8s (goneV r L h)) := Y_20.chg hcA (fun q => nY2 (fp2 _ q))
      have B_21 : Row yA B 51 (ccs r mb2 p2 (keys L1).length cap2) := B_20.chg hcA (O_20.ne B_20 (by decide))
      have M_21 : VMap yA mb2 (putV r L h b) := M_20.chg hcA (O_20.ne_map M_20)
      have O_21 : Own kH yA 0 p3 cap3 (keys (putV r L h b)) := hOA
      have bel_21 : Chg F w yA := bel_20.trans (hcA.more fp2) hGw
      clear X_20 R_20 Z_20 Y_20 B_20 M_20 O_20 bel_20 hcA
      refine ⟨⟨X_21, trivial⟩, ?_⟩
      simp only [Act.put, List.setIfInBounds_toArray, List.set_cons_zero, List.set_cons_succ]
      refine h_take 8 (.pointer (some ⟨B, 0, none⟩)) rfl 50 rfl (by kernel_rfl) (by kernel_rfl) (by kernel_rfl) (by kernel_rfl) (fun _ _ _ h => h) (fun w' _ => by kernel_rfl) ⟨X_21, trivial⟩ ?_
      simp only [Act.put, List.setIfInBounds_toArray, List.set_cons_zero, List.set_cons_succ]
      refine h_take 9 (.pointer (some ⟨B, 2, none⟩)) rfl 51 rfl (by kernel_rfl) (by kernel_rfl) (by kernel_rfl) (by kernel_rfl) (fun _ _ _ h => h) (fun w' _ => by kernel_rfl) ⟨X_21, trivial⟩ ?_
      simp only [Act.put, List.setIfInBounds_toArray, List.set_cons_zero, List.set_cons_succ]
      refine h_one (i := 10) (by kernel_rfl) (o_skip rfl rfl (by kernel_rfl) (run_op_storeV _ _ _ rfl B 2 rfl (.slice p3 (keys L1 ++ [h]).length cap3) rfl (one_sl _ _ _) sz_slH _ _ B_21 (lt_ccs _ _ _ _ _)) ?_)
      have rq := row_setRow B_21 ((ccs r mb2 p2 (keys L1).length cap2).set 2 (.slice p3 (keys L1 ++ [h]).length cap3))
      have oq := Only.setRow B yA ((ccs r mb2 p2 (keys L1).length cap2).set 2 (.slice p3 (keys L1 ++ [h]).length cap3)).toArray
      generalize yA.setRow B ((ccs r mb2 p2 (keys L1).length cap2).set 2 (.slice p3 (keys L1 ++ [h]).length cap3)).toArray = yB at rq oq ⊢
      have rq2 : Row yB B 51 (ccs r mb2 p3 (keys (putV r L h b)).length cap3) := by rw [← HKL.out]; exact rq
      clear rq
      have X_22 : Row yB X 32 (u8s h) := X_21.only oq (X_21.ne_type B_21 (by decide))
      have R_22 : Row yB R 32 (u8s zh) := R_21.only oq (R_21.ne_type B_21 (by decide))
      have Z_22 : yG.heap.size ≤ yB.heap.size := Nat.le_trans Z_21 oq.size
      have Y_22 : Row yB Y 32 (u8s (goneV r L h)) := Y_21.only oq (Y_21.ne_type B_21 (by decide))
      have B_22 : Row yB B 51 (ccs r mb2 p3 (keys (putV r L h b)).length cap3) := rq2
      have M_22 : VMap yB mb2 (putV r L h b) := M_21.only oq (M_21.row B_21)
      have O_22 : Own kH yB 0 p3 cap3 (keys (putV r L h b)) := O_21.only oq (O_21.ne B_21 (by decide))
      have bel_22 : Chg F w yB := bel_21.trans (Chg.of_only oq fB2) hGw
      clear X_21 R_21 Z_21 Y_21 B_21 M_21 O_21 bel_21 oq
      refine ⟨⟨X_22, trivial⟩, ?_⟩
      refine wpAnyH_done (by kernel_rfl) ?_ _
      go_wp2_with (first
        | ((with_reducible refine at_slot 52 ?_); (refine arm_load (o := ⟨some 52, _, _, _, _, _⟩) rfl _ _ rfl Y 0 rfl (u8s (goneV r L h)) ((Has.refl _).range Y_22) (szH HGO.out) ?_); try simp only [Act.put, List.setIfInBounds_toArray, List.set_cons_zero, List.set_cons_succ])
        | ((with_reducible refine arm_store (o := ⟨none, _, _, _, _, _⟩) rfl _ _ _ rfl R 0 rfl (u8s (goneV r L h)) rfl _ _ R_22 (fitH HGO.out) (u8s_one _) (szH HGO.out) ?_); intro yS hS oS sS; try simp only [Act.put, List.setIfInBounds_toArray, List.set_cons_zero, List.set_cons_succ]))
      refine bodyPost_ret (result_row2 (p := 6) (u := 7) (ty := 32) (t := 32) (by kernel_rfl) _ _ R (u8s (goneV r L h)) (.bool (fullV r L h)) rfl rfl (hS.congr (allH HGO.out)) (szH HGO.out)) rfl ?_
      have nR3 : bk p3 ≠ some R := fun q => by
        rcases hbA2 with e | ⟨g, e, _, hg⟩
        · exact nR2 (fp2 R (e ▸ q))
        · rw [e] at q; cases q; omega
      have hMR := M_22.row R_22; have hBR := B_22.ne_type R_22 (by decide)
      have hO3 := O_22.only oS nR3
      have hli3 : Lies F2 yS := fun k q => by have h1 := HL2.out k q; have h2 := Z_22; have h3 := oS.size; omega
      refine ⟨rfl, ⟨fun k => F2 k ∨ bk p3 = some k, ⟨⟨mb2, p3, cap3, B_22.only oS hBR, M_22.only oS hMR, hO3, .inl fB2, .inl fm2, fun g q => .inr q⟩, HPO.out, fun k q => q.elim (hli3 k) (fun q => (hO3.ge q).2)⟩, fun k q => ?_⟩, bel_22.new oS geR⟩
      rcases q with q | q
      · exact hGw k q
      · rcases hbA2 with e | ⟨g, e, hg, _⟩
        · exact hGw k (fp2 k (e ▸ q))
        · exact .inr (by rw [e] at q; cases q; exact hg)
    · skip
      refine (o_value _ rfl 48 rfl (by kernel_rfl) (Sl.run_op_lit fH [h] (Sl.allOk_cons KH.out Sl.allOk_nil) (by simp) 1 _ rfl rfl (by simp only [List.map_toArray, List.map_cons, List.map_nil]; rfl)) ?_)
      have hNy19 := (new_alloc yz17 (.cells (Sl.Kind.all kH [h]).toArray 32)).below
      have rNy19 : Row (yz17.alloc (.cells (Sl.Kind.all kH [h]).toArray 32)) yz17.heap.size 32 (Sl.Kind.all kH [h]) := heap_alloc_new _ _
      have geN : w.heap.size ≤ yz17.heap.size := bel_18.size
      generalize yz17.alloc (.cells (Sl.Kind.all kH [h]).toArray 32) = y19 at hNy19 rNy19 ⊢
      have X_20 : Row y19 X 32 (u8s h) := X_18.old hNy19
      have R_20 : Row y19 R 32 (u8s zh) := R_18.old hNy19
      have Z_20 : yG.heap.size ≤ y19.heap.size := Nat.le_trans Z_18 hNy19.size
      have Y_20 : Row y19 Y 32 (u8s (goneV r L h)) := Y_18.old hNy19
      have B_20 : Row y19 B 51 (ccs r mb2 p2 (keys L1).length cap2) := B_18.old hNy19
      have M_20 : VMap y19 mb2 (putV r L h b) := M_18.old hNy19
      have O_20 : Own kH y19 0 p2 cap2 (keys L1) := O_18.below hNy19
      have bel_20 : Chg F w y19 := bel_18.old hNy19
      clear X_18 R_18 Z_18 Y_18 B_18 M_18 O_18 bel_18 hNy19
      generalize yz17.heap.size = N at rNy19 geN ⊢
      refine ⟨⟨X_20, trivial⟩, ?_⟩
      simp only [Act.put, List.setIfInBounds_toArray, List.set_cons_zero, List.set_cons_succ]
      refine h_one (i := 4) (by kernel_rfl) (o_value (.slice p2 (keys L1).length cap2) rfl 46 rfl (by kernel_rfl) (run_op_load1 _ _ rfl (.slice 32) fH.und rfl ⟨B, 2, none⟩ rfl (.slice p2 (keys L1).length cap2) (B_20.cell (i := 2) rfl)) ?_)
      refine ⟨⟨X_20, trivial⟩, ?_⟩
      simp only [Act.put, List.setIfInBounds_toArray, List.set_cons_zero, List.set_cons_succ]
      have atN : At kH y19 (some ⟨N, 0, none⟩) [h] := Sl.At.row (c := []) fH (Sl.allOk_cons KH.out Sl.allOk_nil) rNy19 (List.append_nil _).symm
      have hszN := bel_20.size
      refine h_one (i := 7) (by kernel_rfl) (Sl.o_appendQ rfl 49 rfl (by kernel_rfl) fH _ _ rfl 0 p2 _ cap2 (keys L1) rfl rfl O_20 (some ⟨N, 0, none⟩) 1 1 [h] rfl rfl atN LK1.out (Nat.zero_le _) ?_)
      intro p3 cap3 yA hOA hBA hkA hbA
      have hcA := Sl.chg_app hBA hkA
      have hbA2 : bk p3 = bk p2 ∨ ∃ g, bk p3 = some g ∧ w.heap.size ≤ g ∧ R < g := hbA.out.imp id (fun q => ⟨_, q, hszN, R_20.lt⟩)
      rw [HKL.out] at hOA
      clear hBA hkA hbA atN hszN
      clear rNy19
      have X_21 : Row yA X 32 (u8s h) := X_20.chg hcA (fun q => nX2 (fp2 _ q))
      have R_21 : Row yA R 32 (u8s zh) := R_20.chg hcA (fun q => nR2 (fp2 _ q))
      have Z_21 : yG.heap.size ≤ yA.heap.size := Nat.le_trans Z_20 hcA.size
      have Y_21 : Row yA Y 32 (u8s (goneV r L h)) := Y_20.chg hcA (fun q => nY2 (fp2 _ q))
      have B_21 : Row yA B 51 (ccs r mb2 p2 (keys L1).length cap2) := B_20.chg hcA (O_20.ne B_20 (by decide))
      have M_21 : VMap yA mb2 (putV r L h b) := M_20.chg hcA (O_20.ne_map M_20)
      have O_21 : Own kH yA 0 p3 cap3 (keys (putV r L h b)) := hOA
      have bel_21 : Chg F w yA := bel_20.trans (hcA.more fp2) hGw
      clear X_20 R_20 Z_20 Y_20 B_20 M_20 O_20 bel_20 hcA
      refine ⟨⟨X_21, trivial⟩, ?_⟩
      simp only [Act.put, List.setIfInBounds_toArray, List.set_cons_zero, List.set_cons_succ]
      refine h_take 8 (.pointer (some ⟨B, 0, none⟩)) rfl 50 rfl (by kernel_rfl) (by kernel_rfl) (by kernel_rfl) (by kernel_rfl) (fun _ _ _ h => h) (fun w' _ => by kernel_rfl) ⟨X_21, trivial⟩ ?_
      simp only [Act.put, List.setIfInBounds_toArray, List.set_cons_zero, List.set_cons_succ]
      refine h_take 9 (.pointer (some ⟨B, 2, none⟩)) rfl 51 rfl (by kernel_rfl) (by kernel_rfl) (by kernel_rfl) (by kernel_rfl) (fun _ _ _ h => h) (fun w' _ => by kernel_rfl) ⟨X_21, trivial⟩ ?_
      simp only [Act.put, List.setIfInBounds_toArray, List.set_cons_zero, List.set_cons_succ]
      refine h_one (i := 10) (by kernel_rfl) (o_skip rfl rfl (by kernel_rfl) (run_op_storeV _ _ _ rfl B 2 rfl (.slice p3 (keys L1 ++ [h]).length cap3) rfl (one_sl _ _ _) sz_slH _ _ B_21 (lt_ccs _ _ _ _ _)) ?_)
      have rq := row_setRow B_21 ((ccs r mb2 p2 (keys L1).length cap2).set 2 (.slice p3 (keys L1 ++ [h]).length cap3))
      have oq := Only.setRow B yA ((ccs r mb2 p2 (keys L1).length cap2).set 2 (.slice p3 (keys L1 ++ [h]).length cap3)).toArray
      generalize yA.setRow B ((ccs r mb2 p2 (keys L1).length cap2).set 2 (.slice p3 (keys L1 ++ [h]).length cap3)).toArray = yB at rq oq ⊢
      have rq2 : Row yB B 51 (ccs r mb2 p3 (keys (putV r L h b)).length cap3) := by rw [← HKL.out]; exact rq
      clear rq
      have X_22 : Row yB X 32 (u8s h) := X_21.only oq (X_21.ne_type B_21 (by decide))
      have R_22 : Row yB R 32 (u8s zh) := R_21.only oq (R_21.ne_type B_21 (by decide))
      have Z_22 : yG.heap.size ≤ yB.heap.size := Nat.le_trans Z_21 oq.size
      have Y_22 : Row yB Y 32 (u8s (goneV r L h)) := Y_21.only oq (Y_21.ne_type B_21 (by decide))
      have B_22 : Row yB B 51 (ccs r mb2 p3 (keys (putV r L h b)).length cap3) := rq2
      have M_22 : VMap yB mb2 (putV r L h b) := M_21.only oq (M_21.row B_21)
      have O_22 : Own kH yB 0 p3 cap3 (keys (putV r L h b)) := O_21.only oq (O_21.ne B_21 (by decide))
      have bel_22 : Chg F w yB := bel_21.trans (Chg.of_only oq fB2) hGw
      clear X_21 R_21 Z_21 Y_21 B_21 M_21 O_21 bel_21 oq
      refine ⟨⟨X_22, trivial⟩, ?_⟩
      refine wpAnyH_done (by kernel_rfl) ?_ _
      go_wp2_with (first
        | ((with_reducible refine at_slot 52 ?_); (refine arm_load (o := ⟨some 52, _, _, _, _, _⟩) rfl _ _ rfl Y 0 rfl (u8s (goneV r L h)) ((Has.refl _).range Y_22) (szH HGO.out) ?_); try simp only [Act.put, List.setIfInBounds_toArray, List.set_cons_zero, List.set_cons_succ])
        | ((with_reducible refine arm_store (o := ⟨none, _, _, _, _, _⟩) rfl _ _ _ rfl R 0 rfl (u8s (goneV r L h)) rfl _ _ R_22 (fitH HGO.out) (u8s_one _) (szH HGO.out) ?_); intro yS hS oS sS; try simp only [Act.put, List.setIfInBounds_toArray, List.set_cons_zero, List.set_cons_succ]))
      refine bodyPost_ret (result_row2 (p := 6) (u := 7) (ty := 32) (t := 32) (by kernel_rfl) _ _ R (u8s (goneV r L h)) (.bool (fullV r L h)) rfl rfl (hS.congr (allH HGO.out)) (szH HGO.out)) rfl ?_
      have nR3 : bk p3 ≠ some R := fun q => by
        rcases hbA2 with e | ⟨g, e, _, hg⟩
        · exact nR2 (fp2 R (e ▸ q))
        · rw [e] at q; cases q; omega
      have hMR := M_22.row R_22; have hBR := B_22.ne_type R_22 (by decide)
      have hO3 := O_22.only oS nR3
      have hli3 : Lies F2 yS := fun k q => by have h1 := HL2.out k q; have h2 := Z_22; have h3 := oS.size; omega
      refine ⟨rfl, ⟨fun k => F2 k ∨ bk p3 = some k, ⟨⟨mb2, p3, cap3, B_22.only oS hBR, M_22.only oS hMR, hO3, .inl fB2, .inl fm2, fun g q => .inr q⟩, HPO.out, fun k q => q.elim (hli3 k) (fun q => (hO3.ge q).2)⟩, fun k q => ?_⟩, bel_22.new oS geR⟩
      rcases q with q | q
      · exact hGw k q
      · rcases hbA2 with e | ⟨g, e, hg, _⟩
        · exact hGw k (fp2 k (e ▸ q))
        · exact .inr (by rw [e] at q; cases q; exact hg)
end Go.Proofs.Ytbpghogdjpobnaa.Vd
