/-
  The contracts of the store's key and of the order that rising sorts by. Over this seat's translation.
-/
import Derived.Test.YtnjmocobncncdaaDoorStoMem
namespace Go.Proofs.YtnjmocobncncdaaDoor.So
open Go.ChangeShapes Go.WideShapes Go.ChangeAt Go.RowKit Go.Proofs.YtnjmocobncncdaaDoor.Mem Go.Proofs.YtnjmocobncncdaaDoor.Bt Go.Proofs.YtnjmocobncncdaaDoor.Km
open Go.Proofs.YtnjmocobncncdaaDoor.Ep (H32 zh zh_ok Has h_len szH zH fitH allH one_app num32)
open Go.Proofs.YtnjmocobncncdaaDoor.Sl (Kind At bk)
open Go.Proofs.YtnjmocobncncdaaDoor.Sa (Sta scs digS digS_ok sz_sta h_drw h_lngth)
open Go.Proofs.YtnjmocobncncdaaDoor.Od (Ky kcs keyN keyN_ok kcs_len kcs_one kcmp kval zk z_key sz_key fitK allK built_key compare_anyD)
set_option linter.unusedVariables false
set_option linter.unusedSimpArgs false

set_option maxHeartbeats 4000000 in
set_option maxRecDepth 100000 in
theorem key_any (F : Nat → Prop) (S r mb : Nat) (pin : Option (List Nat)) (E : Ents) (x : Sta) (b : Nat) (w : World) (hS : SAt w F S r mb pin E) (hx : (x, b) ∈ E) :
    Calls Tryd.prog 25 #[.pointer (some ⟨S, 0, none⟩), .agg (u8s (digS x)).toArray] w fun e w' => e = .returned (.agg (kcs (keyN x)).toArray) ∧ BelD w.heap.size w w' := by
  have hlk := look_ent (ent_nodup hS) hx
  have HV : Hid ((if false = true then Value.tuple #[((Km.look (E.map entD) (digS x)).map ptrV).getD (.pointer none), .bool (Km.look (E.map entD) (digS x)).isSome] else ((Km.look (E.map entD) (digS x)).map ptrV).getD (.pointer none)) = .pointer (some ⟨b, 0, none⟩)) := Lib.hid (by rw [hlk]; rfl)
  have hrow := hS.row
  have hmap := hS.map
  have hst : Row w b 41 (scs x) := hS.st _ hx
  have OK := Lib.hid (hS.ok _ hx)
  have KH := Lib.hid (digS_ok x)
  have HH : Hid (hashOk (digS x)) := Lib.hid (digS_ok x).len
  have KK := Lib.hid (keyN_ok (hS.ok _ hx))
  have KB := Lib.hid (built_key (keyN_ok (hS.ok _ hx)))
  clear hlk hS hx
  go_enter Tryd.func25, Tryd.ntmps25
  have bel0 : BelD w.heap.size w w := BelD.refl _ _
  go_wp2_with (first
    | ((with_reducible refine at_slot 3 ?_); (refine arm_box (o := ⟨some 3, _, _, _, _, _⟩) rfl _ _ rfl (u8s (digS x)) rfl ?_); intro X v1 Xe hv1 nv1; try simp only [Act.put, List.setIfInBounds_toArray, List.set_cons_zero, List.set_cons_succ])
    | ((with_reducible refine at_slot 4 ?_); (refine arm_alloc (o := ⟨some 4, _, _, _, _, _⟩) rfl _ rfl (kcs zk) z_key ?_); intro R v2 Re hv2 nv2; try simp only [Act.put, List.setIfInBounds_toArray, List.set_cons_zero, List.set_cons_succ]))
  have hbv1 := nv1.beld
  have rrv1 : Row v1 X 29 (u8s (digS x)) := hv1
  have hbv2 := nv2.beld
  have rrv2 : Row v2 R 54 (kcs zk) := hv2
  have geX : w.heap.size ≤ X := by have := Xe.out; have := bel0.size; omega
  have lXx : w.heap.size ≤ X := by have := Xe.out; omega
  clear hv1 nv1 Xe
  have S_3 : Row v1 S 67 (pcs r mb pin) := hrow.old hbv1.below
  have M_3 : PMap v1 mb E := hmap.old hbv1.below
  have b_3 : Row v1 b 41 (scs x) := hst.old hbv1.below
  have bel_3 : BelD w.heap.size w v1 := beld_step bel0 bel0.size hbv1
  clear hrow hmap hst bel0 hbv1
  have geR : w.heap.size ≤ R := by have := Re.out; have := bel_3.size; omega
  have ltXR : X < R := by have := Re.out; have := rrv1.lt; omega
  have lRx : v1.heap.size ≤ R := by have := Re.out; omega
  clear hv2 nv2 Re
  have S_4 : Row v2 S 67 (pcs r mb pin) := S_3.old hbv2.below
  have M_4 : PMap v2 mb E := M_3.old hbv2.below
  have b_4 : Row v2 b 41 (scs x) := b_3.old hbv2.below
  have X_4 : Row v2 X 29 (u8s (digS x)) := rrv1.old hbv2.below
  have bel_4 : BelD w.heap.size w v2 := beld_step bel_3 bel_3.size hbv2
  clear S_3 M_3 b_3 rrv1 bel_3 hbv2
  have nRX : X ≠ R := X_4.ne_type rrv2 (by decide)
  have nRS : S ≠ R := S_4.ne_type rrv2 (by decide)
  have nRM : mb ≠ R := M_4.row rrv2
  have nRb : b ≠ R := b_4.ne_type rrv2 (by decide)
  refine wp_region_held (S := fun w' => Row w' S 67 (pcs r mb pin) ∧ PMap w' mb E ∧ Row w' X 29 (u8s (digS x)) ∧ True) (by kernel_rfl) ?_
  change wpAnyH _ _ _ _ _ _ _ _ v2.drew
  have hd5 : BelD v2.heap.size v2 v2.drew := (BelD.refl _ _).drew
  have S_6 : Row v2.drew S 67 (pcs r mb pin) := S_4.old hd5.below
  have M_6 : PMap v2.drew mb E := M_4.old hd5.below
  have b_6 : Row v2.drew b 41 (scs x) := b_4.old hd5.below
  have X_6 : Row v2.drew X 29 (u8s (digS x)) := X_4.old hd5.below
  have R_6 : Row v2.drew R 54 (kcs zk) := rrv2.old hd5.below
  have bel_6 : BelD w.heap.size w v2.drew := beld_step bel_4 bel_4.size hd5
  clear S_4 M_4 b_4 X_4 rrv2 bel_4 hd5
  generalize v2.drew = yz5 at S_6 M_6 b_6 X_6 R_6 bel_6 ⊢
  refine h_take 0 (.pointer (some ⟨S, 0, none⟩)) rfl 6 rfl (by kernel_rfl) (by kernel_rfl) (by kernel_rfl) (by kernel_rfl) (fun _ _ _ h => h) (fun w' _ => by kernel_rfl) ⟨S_6, M_6, X_6, trivial⟩ ?_
  simp only [Act.put, List.setIfInBounds_toArray, List.set_cons_zero, List.set_cons_succ]
  refine h_take 1 (.pointer (some ⟨S, 0, none⟩)) rfl 7 rfl (by kernel_rfl) (by kernel_rfl) (by kernel_rfl) (by kernel_rfl) (fun _ _ _ h => h) (fun w' _ => by kernel_rfl) ⟨S_6, M_6, X_6, trivial⟩ ?_
  simp only [Act.put, List.setIfInBounds_toArray, List.set_cons_zero, List.set_cons_succ]
  refine h_take 2 (.pointer (some ⟨S, 1, none⟩)) rfl 8 rfl (by kernel_rfl) (by kernel_rfl) (by kernel_rfl) (by kernel_rfl) (fun _ _ _ h => h) (fun w' _ => by kernel_rfl) ⟨S_6, M_6, X_6, trivial⟩ ?_
  simp only [Act.put, List.setIfInBounds_toArray, List.set_cons_zero, List.set_cons_succ]
  refine h_take 3 (.map (some mb)) rfl 9 rfl (by kernel_rfl) (by kernel_rfl) (by kernel_rfl) (by kernel_rfl) (fun _ _ _ h => h) (fun w' hw => run_op_load1 _ _ rfl (.map 29 71) und_map rfl ⟨S, 1, none⟩ rfl (.map (some mb)) (hw.1.cell (i := 1) rfl)) ⟨S_6, M_6, X_6, trivial⟩ ?_
  simp only [Act.put, List.setIfInBounds_toArray, List.set_cons_zero, List.set_cons_succ]
  refine h_take 4 (.agg (u8s (digS x)).toArray) rfl 10 rfl (by kernel_rfl) (by kernel_rfl) (by kernel_rfl) (by kernel_rfl) (fun _ _ _ h => h) (fun w' hw => run_op_load _ _ rfl X (0) rfl (u8s (digS x)) (((Has.refl _)).range hw.2.2.1) ((szH KH.out))) ⟨S_6, M_6, X_6, trivial⟩ ?_
  simp only [Act.put, List.setIfInBounds_toArray, List.set_cons_zero, List.set_cons_succ]
  refine h_take 5 (.pointer (some ⟨b, 0, none⟩)) rfl 11 rfl (by kernel_rfl) (by kernel_rfl) (by kernel_rfl) (by kernel_rfl) (fun _ _ _ h => h) (fun w' hw => by rw [← HV.out]; exact run_op_lookupK _ _ _ false rfl rfl (digS x) HH.out rfl hw.2.1 hash_keys und_map _ (zero_ptr _)) ⟨S_6, M_6, X_6, trivial⟩ ?_
  simp only [Act.put, List.setIfInBounds_toArray, List.set_cons_zero, List.set_cons_succ]
  refine h_take 6 (.pointer (some ⟨b, 0, none⟩)) rfl 5 rfl (by kernel_rfl) (by kernel_rfl) (by kernel_rfl) (by kernel_rfl) (fun _ _ _ h => h) (fun w' _ => by kernel_rfl) ⟨S_6, M_6, X_6, trivial⟩ ?_
  simp only [Act.put, List.setIfInBounds_toArray, List.set_cons_zero, List.set_cons_succ]
  refine wpAnyH_done (by kernel_rfl) ?_ _
  go_wp2_with fail
  refine wp_region_held (S := fun w' => Row w' b 41 (scs x) ∧ Row w' X 29 (u8s (digS x)) ∧ True) (by kernel_rfl) ?_
  change wpAnyH _ _ _ _ _ _ _ _ yz5.drew
  have hd7 : BelD yz5.heap.size yz5 yz5.drew := (BelD.refl _ _).drew
  have S_8 : Row yz5.drew S 67 (pcs r mb pin) := S_6.old hd7.below
  have M_8 : PMap yz5.drew mb E := M_6.old hd7.below
  have b_8 : Row yz5.drew b 41 (scs x) := b_6.old hd7.below
  have X_8 : Row yz5.drew X 29 (u8s (digS x)) := X_6.old hd7.below
  have R_8 : Row yz5.drew R 54 (kcs zk) := R_6.old hd7.below
  have bel_8 : BelD w.heap.size w yz5.drew := beld_step bel_6 bel_6.size hd7
  clear S_6 M_6 b_6 X_6 R_6 bel_6 hd7
  generalize yz5.drew = yz7 at S_8 M_8 b_8 X_8 R_8 bel_8 ⊢
  refine h_take 0 (.pointer (some ⟨b, 0, none⟩)) rfl 12 rfl (by kernel_rfl) (by kernel_rfl) (by kernel_rfl) (by kernel_rfl) (fun _ _ _ h => h) (fun w' _ => by kernel_rfl) ⟨b_8, X_8, trivial⟩ ?_
  simp only [Act.put, List.setIfInBounds_toArray, List.set_cons_zero, List.set_cons_succ]
  refine h_take 1 (.pointer (some ⟨b, 0, none⟩)) rfl 13 rfl (by kernel_rfl) (by kernel_rfl) (by kernel_rfl) (by kernel_rfl) (fun _ _ _ h => h) (fun w' _ => by kernel_rfl) ⟨b_8, X_8, trivial⟩ ?_
  simp only [Act.put, List.setIfInBounds_toArray, List.set_cons_zero, List.set_cons_succ]
  refine h_take 2 (.pointer (some ⟨b, 97, none⟩)) rfl 14 rfl (by kernel_rfl) (by kernel_rfl) (by kernel_rfl) (by kernel_rfl) (fun _ _ _ h => h) (fun w' _ => by kernel_rfl) ⟨b_8, X_8, trivial⟩ ?_
  simp only [Act.put, List.setIfInBounds_toArray, List.set_cons_zero, List.set_cons_succ]
  refine h_take 3 (num32 x.len) rfl 15 rfl (by kernel_rfl) (by kernel_rfl) (by kernel_rfl) (by kernel_rfl) (fun _ _ _ h => h) (fun w' hw => run_op_load1 _ _ rfl (.int .u32) (by kernel_rfl) rfl ⟨b, 97, none⟩ rfl (num32 x.len) (hw.1.cell (show Has (scs x) 97 [num32 x.len] from h_lngth OK.out).get)) ⟨b_8, X_8, trivial⟩ ?_
  simp only [Act.put, List.setIfInBounds_toArray, List.set_cons_zero, List.set_cons_succ]
  refine h_take 4 (.pointer (some ⟨b, 0, none⟩)) rfl 16 rfl (by kernel_rfl) (by kernel_rfl) (by kernel_rfl) (by kernel_rfl) (fun _ _ _ h => h) (fun w' _ => by kernel_rfl) ⟨b_8, X_8, trivial⟩ ?_
  simp only [Act.put, List.setIfInBounds_toArray, List.set_cons_zero, List.set_cons_succ]
  refine h_take 5 (.pointer (some ⟨b, 0, none⟩)) rfl 17 rfl (by kernel_rfl) (by kernel_rfl) (by kernel_rfl) (by kernel_rfl) (fun _ _ _ h => h) (fun w' _ => by kernel_rfl) ⟨b_8, X_8, trivial⟩ ?_
  simp only [Act.put, List.setIfInBounds_toArray, List.set_cons_zero, List.set_cons_succ]
  refine h_take 6 (.pointer (some ⟨b, 64, none⟩)) rfl 18 rfl (by kernel_rfl) (by kernel_rfl) (by kernel_rfl) (by kernel_rfl) (fun _ _ _ h => h) (fun w' _ => by kernel_rfl) ⟨b_8, X_8, trivial⟩ ?_
  simp only [Act.put, List.setIfInBounds_toArray, List.set_cons_zero, List.set_cons_succ]
  refine h_take 7 (.agg (u8s x.draw).toArray) rfl 19 rfl (by kernel_rfl) (by kernel_rfl) (by kernel_rfl) (by kernel_rfl) (fun _ _ _ h => h) (fun w' hw => run_op_load _ _ rfl b 64 rfl (u8s x.draw) ((show Has (scs x) 64 (u8s x.draw) from h_drw OK.out).range hw.1) (szH OK.out.draw)) ⟨b_8, X_8, trivial⟩ ?_
  simp only [Act.put, List.setIfInBounds_toArray, List.set_cons_zero, List.set_cons_succ]
  refine h_take 8 (.agg (u8s (digS x)).toArray) rfl 20 rfl (by kernel_rfl) (by kernel_rfl) (by kernel_rfl) (by kernel_rfl) (fun _ _ _ h => h) (fun w' hw => run_op_load _ _ rfl X (0) rfl (u8s (digS x)) (((Has.refl _)).range hw.2.1) ((szH KH.out))) ⟨b_8, X_8, trivial⟩ ?_
  simp only [Act.put, List.setIfInBounds_toArray, List.set_cons_zero, List.set_cons_succ]
  refine h_take 9 (.agg (kcs (keyN x)).toArray) rfl 21 rfl (by kernel_rfl) (by kernel_rfl) (by kernel_rfl) (by kernel_rfl) (fun _ _ _ h => h) (fun w' hw => run_op_build _ _ rfl (kcs (keyN x)) (by simp only [List.map_toArray, List.map_cons, List.map_nil]; exact KB.out) w') ⟨b_8, X_8, trivial⟩ ?_
  simp only [Act.put, List.setIfInBounds_toArray, List.set_cons_zero, List.set_cons_succ]
  refine h_one (i := 10) (by kernel_rfl) (o_skip rfl rfl (by kernel_rfl) (run_op_store _ _ _ rfl R (0) rfl (kcs (keyN x)) rfl _ _ R_8 (fitK KK.out) (kcs_one _) (sz_key KK.out)) ?_)
  have rq := row_setRow R_8 (lay (kcs zk) (0) (kcs (keyN x)))
  have oq := Only.setRow R yz7 (lay (kcs zk) (0) (kcs (keyN x))).toArray
  have dq : yz7.drawn ≤ (yz7.setRow R (lay (kcs zk) (0) (kcs (keyN x))).toArray).drawn := Nat.le_refl _
  generalize yz7.setRow R (lay (kcs zk) (0) (kcs (keyN x))).toArray = y9 at rq oq dq ⊢
  have S_10 : Row y9 S 67 (pcs r mb pin) := S_8.only oq nRS
  have M_10 : PMap y9 mb E := M_8.only oq nRM
  have b_10 : Row y9 b 41 (scs x) := b_8.only oq nRb
  have X_10 : Row y9 X 29 (u8s (digS x)) := X_8.only oq nRX
  have R_10 : Row y9 R 54 (kcs (keyN x)) := rq.congr (allK KK.out)
  have bel_10 : BelD w.heap.size w y9 := ⟨below_only bel_8.below oq (geR) bel_8.size, Nat.le_trans bel_8.drawn dq⟩
  clear S_8 M_8 b_8 X_8 R_8 bel_8 oq
  clear dq
  clear rq
  refine ⟨⟨b_10, X_10, trivial⟩, ?_⟩
  refine wpAnyH_done (by kernel_rfl) ?_ _
  go_wp2_with fail
  exact bodyPost_ret (v := .agg (kcs (keyN x)).toArray) (result_row (p := 4) (ty := 54) (u := 54) (by kernel_rfl) _ _ R (kcs (keyN x)) rfl R_10 (sz_key KK.out)) rfl ⟨rfl, bel_10⟩
set_option maxHeartbeats 4000000 in
set_option maxRecDepth 100000 in
theorem byKey_any (F : Nat → Prop) (S r mb : Nat) (pin : Option (List Nat)) (E : Ents) (x y : Sta × Nat) (B : Nat) (w : World) (hS : SAt w F S r mb pin E) (hB : Row w B 24 [.pointer (some ⟨S, 0, none⟩)]) (hx : x ∈ E) (hy : y ∈ E) :
    Calls Tryd.prog 40 #[.agg (u8s (digS x.1)).toArray, .agg (u8s (digS y.1)).toArray, .pointer (some ⟨B, 0, none⟩)] w fun e w' => e = .returned (.int .i64 (kcmp (keyN x.1) (keyN y.1))) ∧ BelD w.heap.size w w' := by
  have KX := Lib.hid (digS_ok x.1); have KY := Lib.hid (digS_ok y.1)
  have CX := Lib.hid (fun w0 h => key_any F S r mb pin E x.1 x.2 w0 h hx)
  have CY := Lib.hid (fun w0 h => key_any F S r mb pin E y.1 y.2 w0 h hy)
  have CC := Lib.hid (fun w0 => compare_anyD (keyN x.1) (keyN y.1) w0 (keyN_ok (hS.ok _ hx)) (keyN_ok (hS.ok _ hy)))
  generalize kcmp (keyN x.1) (keyN y.1) = z at CC ⊢
  clear hx hy
  go_enter Tryd.func40, Tryd.ntmps40
  have bel0 : BelD w.heap.size w w := BelD.refl _ _
  go_wp2_with (first
    | ((with_reducible refine at_slot 3 ?_); (refine arm_box (o := ⟨some 3, _, _, _, _, _⟩) rfl _ _ rfl (u8s (digS x.1)) rfl ?_); intro X v1 Xe hv1 nv1; try simp only [Act.put, List.setIfInBounds_toArray, List.set_cons_zero, List.set_cons_succ])
    | ((with_reducible refine at_slot 4 ?_); (refine arm_box (o := ⟨some 4, _, _, _, _, _⟩) rfl _ _ rfl (u8s (digS y.1)) rfl ?_); intro Y v2 Ye hv2 nv2; try simp only [Act.put, List.setIfInBounds_toArray, List.set_cons_zero, List.set_cons_succ]))
  have hbv1 := nv1.beld
  have rrv1 : Row v1 X 29 (u8s (digS x.1)) := hv1
  have hbv2 := nv2.beld
  have rrv2 : Row v2 Y 29 (u8s (digS y.1)) := hv2
  have geX : w.heap.size ≤ X := by have := Xe.out; have := bel0.size; omega
  have lXx : w.heap.size ≤ X := by have := Xe.out; omega
  clear hv1 nv1 Xe
  have A_3 : SAt v1 F S r mb pin E := hS.old hbv1.below
  have B_3 : Row v1 B 24 [.pointer (some ⟨S, 0, none⟩)] := hB.old hbv1.below
  have bel_3 : BelD w.heap.size w v1 := beld_step bel0 bel0.size hbv1
  clear hS hB bel0 hbv1
  have geY : w.heap.size ≤ Y := by have := Ye.out; have := bel_3.size; omega
  have ltXY : X < Y := by have := Ye.out; have := rrv1.lt; omega
  have lYx : v1.heap.size ≤ Y := by have := Ye.out; omega
  clear hv2 nv2 Ye
  have A_4 : SAt v2 F S r mb pin E := A_3.old hbv2.below
  have B_4 : Row v2 B 24 [.pointer (some ⟨S, 0, none⟩)] := B_3.old hbv2.below
  have X_4 : Row v2 X 29 (u8s (digS x.1)) := rrv1.old hbv2.below
  have bel_4 : BelD w.heap.size w v2 := beld_step bel_3 bel_3.size hbv2
  clear A_3 B_3 rrv1 bel_3 hbv2
  refine wp_region_held (S := fun w' => Row w' B 24 [.pointer (some ⟨S, 0, none⟩)] ∧ Row w' X 29 (u8s (digS x.1)) ∧ Row w' Y 29 (u8s (digS y.1)) ∧ True) (by kernel_rfl) ?_
  change wpAnyH _ _ _ _ _ _ _ _ v2.drew
  have hd5 : BelD v2.heap.size v2 v2.drew := (BelD.refl _ _).drew
  have A_6 : SAt v2.drew F S r mb pin E := A_4.old hd5.below
  have B_6 : Row v2.drew B 24 [.pointer (some ⟨S, 0, none⟩)] := B_4.old hd5.below
  have X_6 : Row v2.drew X 29 (u8s (digS x.1)) := X_4.old hd5.below
  have Y_6 : Row v2.drew Y 29 (u8s (digS y.1)) := rrv2.old hd5.below
  have bel_6 : BelD w.heap.size w v2.drew := beld_step bel_4 bel_4.size hd5
  clear A_4 B_4 X_4 rrv2 bel_4 hd5
  generalize v2.drew = yz5 at A_6 B_6 X_6 Y_6 bel_6 ⊢
  refine h_take 0 (.pointer (some ⟨S, 0, none⟩)) rfl 6 rfl (by kernel_rfl) (by kernel_rfl) (by kernel_rfl) (by kernel_rfl) (fun _ _ _ h => h) (fun w' hw => run_op_load1 _ _ rfl (.pointer 67) (by kernel_rfl) rfl ⟨B, 0, none⟩ rfl (.pointer (some ⟨S, 0, none⟩)) (hw.1.cell (i := 0) rfl)) ⟨B_6, X_6, Y_6, trivial⟩ ?_
  simp only [Act.put, List.setIfInBounds_toArray, List.set_cons_zero, List.set_cons_succ]
  refine h_take 1 (.agg (u8s (digS x.1)).toArray) rfl 7 rfl (by kernel_rfl) (by kernel_rfl) (by kernel_rfl) (by kernel_rfl) (fun _ _ _ h => h) (fun w' hw => run_op_load _ _ rfl X (0) rfl (u8s (digS x.1)) (((Has.refl _)).range hw.2.1) ((szH KX.out))) ⟨B_6, X_6, Y_6, trivial⟩ ?_
  simp only [Act.put, List.setIfInBounds_toArray, List.set_cons_zero, List.set_cons_succ]
  refine h_take 3 (.pointer (some ⟨S, 0, none⟩)) rfl 9 rfl (by kernel_rfl) (by kernel_rfl) (by kernel_rfl) (by kernel_rfl) (fun _ _ _ h => h) (fun w' hw => run_op_load1 _ _ rfl (.pointer 67) (by kernel_rfl) rfl ⟨B, 0, none⟩ rfl (.pointer (some ⟨S, 0, none⟩)) (hw.1.cell (i := 0) rfl)) ⟨B_6, X_6, Y_6, trivial⟩ ?_
  simp only [Act.put, List.setIfInBounds_toArray, List.set_cons_zero, List.set_cons_succ]
  refine h_take 4 (.agg (u8s (digS y.1)).toArray) rfl 10 rfl (by kernel_rfl) (by kernel_rfl) (by kernel_rfl) (by kernel_rfl) (fun _ _ _ h => h) (fun w' hw => run_op_load _ _ rfl Y (0) rfl (u8s (digS y.1)) (((Has.refl _)).range hw.2.2.1) ((szH KY.out))) ⟨B_6, X_6, Y_6, trivial⟩ ?_
  simp only [Act.put, List.setIfInBounds_toArray, List.set_cons_zero, List.set_cons_succ]
  refine h_one (i := 2) (by kernel_rfl) (o_call rfl 8 rfl (by kernel_rfl) (run_op_call 25 _ _ rfl #[.pointer (some ⟨S, 0, none⟩), .agg (u8s (digS x.1)).toArray] (by simp only [List.map_toArray, List.map_cons, List.map_nil]; rfl) Tryd.func25 (by kernel_rfl) (by kernel_rfl) _) (CX.out _ A_6) ?_)
  rintro e y7 ⟨rfl, hB⟩
  have A_8 : SAt y7 F S r mb pin E := A_6.old hB.below
  have B_8 : Row y7 B 24 [.pointer (some ⟨S, 0, none⟩)] := B_6.old hB.below
  have X_8 : Row y7 X 29 (u8s (digS x.1)) := X_6.old hB.below
  have Y_8 : Row y7 Y 29 (u8s (digS y.1)) := Y_6.old hB.below
  have bel_8 : BelD w.heap.size w y7 := beld_step bel_6 bel_6.size hB
  clear A_6 B_6 X_6 Y_6 bel_6 hB
  refine ⟨_, rfl, ⟨B_8, X_8, Y_8, trivial⟩, ?_⟩
  simp only [Act.put, List.setIfInBounds_toArray, List.set_cons_zero, List.set_cons_succ]
  refine h_one (i := 5) (by kernel_rfl) (o_call rfl 11 rfl (by kernel_rfl) (run_op_call 25 _ _ rfl #[.pointer (some ⟨S, 0, none⟩), .agg (u8s (digS y.1)).toArray] (by simp only [List.map_toArray, List.map_cons, List.map_nil]; rfl) Tryd.func25 (by kernel_rfl) (by kernel_rfl) _) (CY.out _ A_8) ?_)
  rintro e y9 ⟨rfl, hB⟩
  have A_10 : SAt y9 F S r mb pin E := A_8.old hB.below
  have B_10 : Row y9 B 24 [.pointer (some ⟨S, 0, none⟩)] := B_8.old hB.below
  have X_10 : Row y9 X 29 (u8s (digS x.1)) := X_8.old hB.below
  have Y_10 : Row y9 Y 29 (u8s (digS y.1)) := Y_8.old hB.below
  have bel_10 : BelD w.heap.size w y9 := beld_step bel_8 bel_8.size hB
  clear A_8 B_8 X_8 Y_8 bel_8 hB
  refine ⟨_, rfl, ⟨B_10, X_10, Y_10, trivial⟩, ?_⟩
  simp only [Act.put, List.setIfInBounds_toArray, List.set_cons_zero, List.set_cons_succ]
  refine h_one (i := 6) (by kernel_rfl) (o_call rfl 12 rfl (by kernel_rfl) (run_op_call 15 _ _ rfl #[.agg (kcs (keyN x.1)).toArray, .agg (kcs (keyN y.1)).toArray] (by simp only [List.map_toArray, List.map_cons, List.map_nil]; rfl) Tryd.func15 (by kernel_rfl) (by kernel_rfl) _) (CC.out _) ?_)
  rintro e y11 ⟨rfl, hB⟩
  have A_12 : SAt y11 F S r mb pin E := A_10.old hB.below
  have B_12 : Row y11 B 24 [.pointer (some ⟨S, 0, none⟩)] := B_10.old hB.below
  have X_12 : Row y11 X 29 (u8s (digS x.1)) := X_10.old hB.below
  have Y_12 : Row y11 Y 29 (u8s (digS y.1)) := Y_10.old hB.below
  have bel_12 : BelD w.heap.size w y11 := beld_step bel_10 bel_10.size hB
  clear A_10 B_10 X_10 Y_10 bel_10 hB
  refine ⟨_, rfl, ⟨B_12, X_12, Y_12, trivial⟩, ?_⟩
  simp only [Act.put, List.setIfInBounds_toArray, List.set_cons_zero, List.set_cons_succ]
  refine h_take 7 (.int .i64 z) rfl 5 rfl (by kernel_rfl) (by kernel_rfl) (by kernel_rfl) (by kernel_rfl) (fun _ _ _ h => h) (fun w' _ => by kernel_rfl) ⟨B_12, X_12, Y_12, trivial⟩ ?_
  simp only [Act.put, List.setIfInBounds_toArray, List.set_cons_zero, List.set_cons_succ]
  refine wpAnyH_done (by kernel_rfl) ?_ _
  go_wp2_with fail
  go_ret
  exact ⟨rfl, bel_12⟩
end Go.Proofs.YtnjmocobncncdaaDoor.So
