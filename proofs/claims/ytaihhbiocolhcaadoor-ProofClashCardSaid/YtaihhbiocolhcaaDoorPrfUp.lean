/-
  The contracts of package proof's climb and of the closure that it answers: a way is gone up, node by node. Over this seat's translation.
-/
import Derived.Test.YtaihhbiocolhcaaDoorPrfMem
import Derived.Test.YtaihhbiocolhcaaDoorTreAll
namespace Go.Proofs.YtaihhbiocolhcaaDoor.Pf
open Go.ChangeShapes Go.WideShapes Go.ChangeAt Go.RowKit Go.Proofs.YtaihhbiocolhcaaDoor.Mem Go.Proofs.YtaihhbiocolhcaaDoor.Bt Go.Proofs.YtaihhbiocolhcaaDoor.Wi Go.Proofs.YtaihhbiocolhcaaDoor.Sha Go.Proofs.YtaihhbiocolhcaaDoor.Ac Go.Proofs.YtaihhbiocolhcaaDoor.Tr
open Go.Proofs.YtaihhbiocolhcaaDoor.Tg (bytesOf bytesOf_length bytesOf_lt bytesOf_inj Rd Rd.below Parts parts_one arm_one tagD tagD_len tagOf_any refTag_any total image image_inj image_length)
open Go.Proofs.YtaihhbiocolhcaaDoor.Ep (H32 zh zh_ok Has h_len szH zH fitH allH came_at one_app)
set_option linter.unusedVariables false
set_option linter.unusedSimpArgs false

structure ClimbPost (w : World) (p : Nat) (leaf : List Nat) (e : Ending) (w' : World) : Prop where
  ex : ∃ H S P : Nat, e = .returned (upV H S P) ∧ UpAt w' H S P p 0 leaf ∧ w.heap.size ≤ P
  bel : Below w.heap.size w w'
set_option maxHeartbeats 4000000 in
set_option maxRecDepth 100000 in
theorem climb_any (p : Nat) (leaf : List Nat) (w : World) (kl : H32 leaf) :
    Calls Tryd.prog 29 #[.int .i64 (p : Int), .agg (u8s leaf).toArray] w (ClimbPost w p leaf) := by
  clear kl
  go_enter Tryd.func29, Tryd.ntmps29
  go_wp2_with (first
    | ((with_reducible refine at_slot 2 ?_); (refine arm_box1 (o := ⟨some 2, _, _, _, _, _⟩) rfl _ _ rfl (.int .i64 (p : Int)) rfl rfl ?_); intro P v1 Pe hv1 nv1; try simp only [Act.put, List.setIfInBounds_toArray, List.set_cons_zero, List.set_cons_succ])
    | ((with_reducible refine at_slot 3 ?_); (refine arm_box (o := ⟨some 3, _, _, _, _, _⟩) rfl _ _ rfl (u8s leaf) rfl ?_); intro S v2 Se hv2 nv2; try simp only [Act.put, List.setIfInBounds_toArray, List.set_cons_zero, List.set_cons_succ])
    | ((with_reducible refine at_slot 5 ?_); (refine arm_alloc1 (o := ⟨some 5, _, _, _, _, _⟩) rfl _ rfl (.int .i64 0) (by kernel_rfl) rfl ?_); intro K v3 Ke hv3 nv3; try simp only [Act.put, List.setIfInBounds_toArray, List.set_cons_zero, List.set_cons_succ])
    | ((with_reducible refine arm_storeV (o := ⟨none, _, _, _, _, _⟩) rfl _ _ _ rfl K 0 rfl (.int .i64 0) rfl (one_i _ _) sz_int _ _ (hv3) (lt_one _) ?_); intro y9 hy9 oy9 sy9; try simp only [Act.put, List.setIfInBounds_toArray, List.set_cons_zero, List.set_cons_succ])
    | ((with_reducible refine at_slot 6 ?_); (refine arm_want (upV K S P) 6 rfl (by kernel_rfl) (run_op_makeFunc _ _ _ rfl _ _ (by simp only [List.map_toArray, List.map_nil]) (by simp only [List.map_toArray, List.map_cons, List.map_nil]; rfl) _) ?_); try simp only [Act.put, List.setIfInBounds_toArray, List.set_cons_zero, List.set_cons_succ]))
  have hbv1 := nv1.below
  have rrv1 : Row v1 P 3 ([.int .i64 (p : Int)]) := hv1
  have hbv2 := nv2.below
  have rrv2 : Row v2 S 23 (u8s leaf) := hv2
  have hbv3 := nv3.below
  have rrv3 : Row v3 K 3 ([.int .i64 0]) := hv3
  have geP : w.heap.size ≤ P := by have := Pe.out; omega
  clear hv1 nv1 Pe
  have bel_4 : Below w.heap.size w v1 := hbv1
  clear hbv1
  have geS : w.heap.size ≤ S := by have := Se.out; have := bel_4.size; omega
  have ltPS : P < S := by have := Se.out; have := rrv1.lt; omega
  clear hv2 nv2 Se
  have P_5 : Row v2 P 3 ([.int .i64 (p : Int)]) := rrv1.old hbv2
  have bel_5 : Below w.heap.size w v2 := below_step bel_4 bel_4.size hbv2
  clear rrv1 bel_4 hbv2
  have geK : w.heap.size ≤ K := by have := Ke.out; have := bel_5.size; omega
  have ltSK : S < K := by have := Ke.out; have := rrv2.lt; omega
  clear hv3 nv3 Ke
  have P_6 : Row v3 P 3 ([.int .i64 (p : Int)]) := P_5.old hbv3
  have S_6 : Row v3 S 23 (u8s leaf) := rrv2.old hbv3
  have bel_6 : Below w.heap.size w v3 := below_step bel_5 bel_5.size hbv3
  clear P_5 rrv2 bel_5 hbv3
  go_ret
  have hKS : K ≠ S := by omega
  have hKP : K ≠ P := by omega
  exact ⟨⟨K, S, P, rfl, ⟨hy9, S_6.only oy9 hKS.symm, P_6.only oy9 hKP.symm, ltPS, ltSK⟩, geP⟩, below_only bel_6 oy9 geK bel_6.size⟩
structure UpPost (w : World) (H S P p k : Nat) (d b : List Nat) (e : Ending) (w' : World) : Prop where
  ret : e = .returned (.agg (ncs (k + 1) (lft p k d b) (rgt p k d b) (nxt p k d b)).toArray)
  up : UpAt w' H S P p (k + 1) (nxt p k d b)
  two : Two H S w w'
set_option maxHeartbeats 4000000 in
set_option maxRecDepth 100000 in
theorem up_any (K S P p k : Nat) (d b : List Nat) (w : World) (hp : p < 16) (hk4 : k < 4) (kd : H32 d) (kb : H32 b) (hu : UpAt w K S P p k d) (hk : w.rangeAt 1 0 (u32s ks)) :
    Calls Tryd.prog 47 #[.agg (u8s b).toArray, .pointer (some ⟨K, 0, none⟩), .pointer (some ⟨S, 0, none⟩), .pointer (some ⟨P, 0, none⟩)] w (UpPost w K S P p k d b) := by
  have hk1 : 1 < w.heap.size := range_lt hk (by simp [u32s, ks])
  have HKW : Hid (∀ w', Below w.heap.size w w' → w'.rangeAt 1 0 (u32s ks)) := Lib.hid fun w' hb => range_block hk (hb.block _ hk1)
  have KD := Lib.hid kd; have KB := Lib.hid kb
  have hPS := hu.ps; have hSK := hu.sh
  have rH := hu.rh; have rS := hu.rs; have rP := hu.rp
  have KL := Lib.hid (lft_ok (p := p) (k := k) kd kb); have KR := Lib.hid (rgt_ok (p := p) (k := k) kd kb); have KN := Lib.hid (nxt_ok p k d b)
  have HPQ : Hid (p ≤ 9223372036854775807) := Lib.hid (by omega)
  have HK64 : Hid (k < 64) := Lib.hid (by omega)
  have HX16 : Hid (p / 2 ^ k < 16) := Lib.hid (Nat.lt_of_le_of_lt (Nat.div_le_self _ _) hp)
  have HW : Hid (IntKind.i64.wrap ((k : Int) + 1) = ((k + 1 : Nat) : Int)) := Lib.hid (by rw [IntKind.wrap_i64]; omega)
  have CJ : Hid (∀ w0, w0.rangeAt 1 0 (u32s ks) → Calls Tryd.prog 28 #[.int .i64 ((k + 1 : Nat) : Int), .agg (u8s (lft p k d b)).toArray, .agg (u8s (rgt p k d b)).toArray] w0 fun e w' => e = .returned (.agg (u8s (nxt p k d b)).toArray) ∧ Below w0.heap.size w0 w') := Lib.hid fun w0 h => join_any (k + 1) _ _ w0 (by omega) KL.out KR.out h
  have LH := Lib.hid rH.lt; have LS := Lib.hid rS.lt; have LP := Lib.hid rP.lt
  clear hk hk1 hu hp hk4 kd kb
  go_enter Tryd.func47, Tryd.ntmps47
  go_wp2_with (first
    | ((with_reducible refine at_slot 4 ?_); (refine arm_box (o := ⟨some 4, _, _, _, _, _⟩) rfl _ _ rfl (u8s b) rfl ?_); intro X v1 Xe hv1 nv1; try simp only [Act.put, List.setIfInBounds_toArray, List.set_cons_zero, List.set_cons_succ])
    | ((with_reducible refine at_slot 5 ?_); (refine arm_alloc (o := ⟨some 5, _, _, _, _, _⟩) rfl _ rfl (zn) z_node ?_); intro R v2 Re hv2 nv2; try simp only [Act.put, List.setIfInBounds_toArray, List.set_cons_zero, List.set_cons_succ])
    | ((with_reducible refine at_slot 7 ?_); (refine pause ?_); try simp only [Act.put, List.setIfInBounds_toArray, List.set_cons_zero, List.set_cons_succ]))
  have hbv1 := nv1.below
  have rrv1 : Row v1 X 23 (u8s b) := hv1
  have hbv2 := nv2.below
  have rrv2 : Row v2 R 74 (zn) := hv2
  have geX : w.heap.size ≤ X := by have := Xe.out; omega
  clear hv1 nv1 Xe
  have S_3 : Row v1 S 23 (u8s d) := rS.old hbv1
  have P_3 : Row v1 P 3 ([.int .i64 (p : Int)]) := rP.old hbv1
  have K_3 : Row v1 K 3 ([.int .i64 (k : Int)]) := rH.old hbv1
  have bel_3 : Below w.heap.size w v1 := hbv1
  clear rS rP rH hbv1
  have geR : w.heap.size ≤ R := by have := Re.out; have := bel_3.size; omega
  have ltXR : X < R := by have := Re.out; have := rrv1.lt; omega
  clear hv2 nv2 Re
  have S_4 : Row v2 S 23 (u8s d) := S_3.old hbv2
  have P_4 : Row v2 P 3 ([.int .i64 (p : Int)]) := P_3.old hbv2
  have K_4 : Row v2 K 3 ([.int .i64 (k : Int)]) := K_3.old hbv2
  have X_4 : Row v2 X 23 (u8s b) := rrv1.old hbv2
  have bel_4 : Below w.heap.size w v2 := below_step bel_3 bel_3.size hbv2
  clear S_3 P_3 K_3 rrv1 bel_3 hbv2
  refine go_on ?_
  go_wp2_with (first
    | ((with_reducible refine at_slot 7 ?_); (refine arm_want (.int .i64 (k : Int)) 7 rfl (by kernel_rfl) (run_op_load1 _ _ rfl (.int .i64) (by kernel_rfl) rfl ⟨K, 0, none⟩ rfl (.int .i64 (k : Int)) (K_4.cell rfl)) ?_); try simp only [Act.put, List.setIfInBounds_toArray, List.set_cons_zero, List.set_cons_succ])
    | ((with_reducible refine at_slot 8 ?_); (refine arm_want (.int .i64 ((k + 1 : Nat) : Int)) 8 rfl (by kernel_rfl) (run_op_addK _ _ _ _ rfl _ _ _ rfl rfl HW.out _) ?_); try simp only [Act.put, List.setIfInBounds_toArray, List.set_cons_zero, List.set_cons_succ])
    | ((with_reducible refine at_slot 9 ?_); (refine arm_load (o := ⟨some 9, _, _, _, _, _⟩) rfl _ _ rfl S 0 rfl (u8s d) ((Has.refl _).range S_4) (szH KD.out) ?_); try simp only [Act.put, List.setIfInBounds_toArray, List.set_cons_zero, List.set_cons_succ])
    | ((with_reducible refine at_slot 10 ?_); (refine arm_load (o := ⟨some 10, _, _, _, _, _⟩) rfl _ _ rfl X 0 rfl (u8s b) ((Has.refl _).range X_4) (szH KB.out) ?_); try simp only [Act.put, List.setIfInBounds_toArray, List.set_cons_zero, List.set_cons_succ])
    | ((with_reducible refine at_slot 11 ?_); (refine arm_want (.agg (ncs (k + 1) d b zh).toArray) 11 rfl (by kernel_rfl) (run_op_build _ _ rfl _ (by simp only [List.map_toArray, List.map_cons, List.map_nil]; exact built_node (k + 1) KD.out KB.out) _) ?_); try simp only [Act.put, List.setIfInBounds_toArray, List.set_cons_zero, List.set_cons_succ])
    | ((with_reducible refine at_slot 6 ?_); (refine arm_alloc (o := ⟨some 6, _, _, _, _, _⟩) rfl _ rfl (zn) z_node ?_); intro N v5a Ne hNa nN; try simp only [Act.put, List.setIfInBounds_toArray, List.set_cons_zero, List.set_cons_succ])
    | ((with_reducible refine arm_store (o := ⟨none, _, _, _, _, _⟩) rfl _ _ _ rfl N 0 rfl (ncs (k + 1) d b zh) rfl _ _ hNa (fitN KD.out KB.out zh_ok) (ncs_one _ _ _ _) (sz_node KD.out KB.out zh_ok) ?_); intro v5 hNb oN sN; try simp only [Act.put, List.setIfInBounds_toArray, List.set_cons_zero, List.set_cons_succ])
    | ((with_reducible refine at_slot 12 ?_); (refine pause ?_); try simp only [Act.put, List.setIfInBounds_toArray, List.set_cons_zero, List.set_cons_succ]))
  have lN : v2.heap.size ≤ N := by have := Ne.out; omega
  have bN : Below v2.heap.size v2 v5 := below_only nN.below oN lN nN.below.size
  have rrN : Row v5 N 74 (ncs (k + 1) d b zh) := hNb.congr (allN KD.out KB.out zh_ok)
  have geN : w.heap.size ≤ N := Nat.le_trans bel_4.size lN
  have neXN : X ≠ N := by have := X_4.lt; omega
  have neRN : R ≠ N := by have := rrv2.lt; omega
  have neKN : K ≠ N := by have := K_4.lt; omega
  have neSN : S ≠ N := by have := S_4.lt; omega
  have nePN : P ≠ N := by have := P_4.lt; omega
  clear hNa hNb nN oN sN Ne lN
  have S_6 : Row v5 S 23 (u8s d) := S_4.old bN
  have P_6 : Row v5 P 3 ([.int .i64 (p : Int)]) := P_4.old bN
  have K_6 : Row v5 K 3 ([.int .i64 (k : Int)]) := K_4.old bN
  have X_6 : Row v5 X 23 (u8s b) := X_4.old bN
  have R_6 : Row v5 R 74 (zn) := rrv2.old bN
  have bel_6 : Below w.heap.size w v5 := below_step bel_4 bel_4.size bN
  clear S_4 P_4 K_4 X_4 rrv2 bel_4 bN
  refine go_on ?_
  have neNS : N ≠ S := neSN.symm
  by_cases he : p / 2 ^ k % 2 = 0
  · have HM : Hid (decide (((p / 2 ^ k % 2 : Nat) : Int) = 1) = false) := Lib.hid (decide_eq_false (by omega))
    have HL : Hid (lft p k d b = d) := Lib.hid (if_pos he); have HR : Hid (rgt p k d b = b) := Lib.hid (if_pos he)
    clear he
    go_wp2_with (first
      | ((with_reducible refine at_slot 12 ?_); (refine arm_want (.int .i64 (p : Int)) 12 rfl (by kernel_rfl) (run_op_load1 _ _ rfl (.int .i64) (by kernel_rfl) rfl ⟨P, 0, none⟩ rfl (.int .i64 (p : Int)) (P_6.cell rfl)) ?_); try simp only [Act.put, List.setIfInBounds_toArray, List.set_cons_zero, List.set_cons_succ])
      | ((with_reducible refine at_slot 13 ?_); (refine arm_want (.int .i64 (k : Int)) 13 rfl (by kernel_rfl) (run_op_load1 _ _ rfl (.int .i64) (by kernel_rfl) rfl ⟨K, 0, none⟩ rfl (.int .i64 (k : Int)) (K_6.cell rfl)) ?_); try simp only [Act.put, List.setIfInBounds_toArray, List.set_cons_zero, List.set_cons_succ])
      | ((with_reducible refine at_slot 14 ?_); (refine arm_want (.int .i64 ((p / 2 ^ k : Nat) : Int)) 14 rfl (by kernel_rfl) (run_op_shrI _ _ _ _ rfl p k rfl rfl HPQ.out HK64.out _) ?_); try simp only [Act.put, List.setIfInBounds_toArray, List.set_cons_zero, List.set_cons_succ])
      | ((with_reducible refine at_slot 15 ?_); (refine arm_want (.int .i64 ((p / 2 ^ k % 2 : Nat) : Int)) 15 rfl (by kernel_rfl) (run_op_andI _ _ _ _ rfl (p / 2 ^ k) rfl rfl HX16.out _) ?_); try simp only [Act.put, List.setIfInBounds_toArray, List.set_cons_zero, List.set_cons_succ])
      | ((with_reducible refine at_slot 16 ?_); (refine arm_want (.bool false) 16 rfl (by kernel_rfl) (cmp_eql _ _ .i64 (by kernel_rfl) _ _ rfl .i64 _ _ rfl rfl false HM.out _) ?_); try simp only [Act.put, List.setIfInBounds_toArray, List.set_cons_zero, List.set_cons_succ])
      | ((with_reducible refine at_slot 22 ?_); (refine arm_want (.int .i64 ((k + 1 : Nat) : Int)) 22 rfl (by kernel_rfl) (run_op_load1 _ _ rfl (.int .i64) (by kernel_rfl) rfl ⟨N, 0, none⟩ rfl (.int .i64 ((k + 1 : Nat) : Int)) (rrN.cell rfl)) ?_); try simp only [Act.put, List.setIfInBounds_toArray, List.set_cons_zero, List.set_cons_succ])
      | ((with_reducible refine at_slot 24 ?_); (refine arm_load (o := ⟨some 24, _, _, _, _, _⟩) rfl _ _ rfl N 1 rfl (u8s d) ((n_l _ _ _ _).range rrN) (szH KD.out) ?_); try simp only [Act.put, List.setIfInBounds_toArray, List.set_cons_zero, List.set_cons_succ])
      | ((with_reducible refine at_slot 26 ?_); (refine arm_load (o := ⟨some 26, _, _, _, _, _⟩) rfl _ _ rfl N 33 rfl (u8s b) ((n_r KD.out).range rrN) (szH KB.out) ?_); try simp only [Act.put, List.setIfInBounds_toArray, List.set_cons_zero, List.set_cons_succ]))
    have CJ2 := Lib.hid CJ.out
    rw [HL.out, HR.out] at CJ2
    have HE : Hid (ncs (k + 1) (lft p k d b) (rgt p k d b) (nxt p k d b) = ncs (k + 1) d b (nxt p k d b)) := Lib.hid (by rw [HL.out, HR.out])
    skip
    refine (CJ2.out _ (HKW.out _ bel_6)).mono ?_
    rintro e y7 ⟨rfl, hB⟩
    have S_8 : Row y7 S 23 (u8s d) := S_6.old hB
    have P_8 : Row y7 P 3 ([.int .i64 (p : Int)]) := P_6.old hB
    have K_8 : Row y7 K 3 ([.int .i64 (k : Int)]) := K_6.old hB
    have X_8 : Row y7 X 23 (u8s b) := X_6.old hB
    have R_8 : Row y7 R 74 (zn) := R_6.old hB
    have N_8 : Row y7 N 74 (ncs (k + 1) d b zh) := rrN.old hB
    have bel_8 : Below w.heap.size w y7 := below_step bel_6 bel_6.size hB
    clear S_6 P_6 K_6 X_6 R_6 rrN bel_6 hB
    go_wp2_with (first
      | ((with_reducible refine arm_store (o := ⟨none, _, _, _, _, _⟩) rfl _ _ _ rfl N 65 rfl (u8s (nxt p k d b)) rfl _ _ (N_8) (by rw [ncs_len KD.out KB.out zh_ok, h_len KN.out]; omega) (u8s_one _) (szH KN.out) ?_); intro y9 hy9 oy9 sy9; try simp only [Act.put, List.setIfInBounds_toArray, List.set_cons_zero, List.set_cons_succ]))
    clear sy9
    have S_9 : Row y9 S 23 (u8s d) := S_8.only oy9 neSN
    have P_9 : Row y9 P 3 ([.int .i64 (p : Int)]) := P_8.only oy9 nePN
    have K_9 : Row y9 K 3 ([.int .i64 (k : Int)]) := K_8.only oy9 neKN
    have X_9 : Row y9 X 23 (u8s b) := X_8.only oy9 neXN
    have R_9 : Row y9 R 74 (zn) := R_8.only oy9 neRN
    have N_9 : Row y9 N 74 (ncs (k + 1) d b (nxt p k d b)) := hy9.congr (n_setd KD.out KB.out zh_ok KN.out)
    have bel_9 : Below w.heap.size w y9 := below_only bel_8 oy9 geN bel_8.size
    clear S_8 P_8 K_8 X_8 R_8 N_8 bel_8 oy9
    clear hy9
    refine wp_region_held (S := fun w' => Row w' N 74 (ncs (k + 1) d b (nxt p k d b)) ∧ True) (by kernel_rfl) ?_
    change wpAnyH _ _ _ _ _ _ _ _ y9.drew
    have hd10 : Below y9.heap.size y9 y9.drew := (Below.refl _ _).drew
    have S_11 : Row y9.drew S 23 (u8s d) := S_9.old hd10
    have P_11 : Row y9.drew P 3 ([.int .i64 (p : Int)]) := P_9.old hd10
    have K_11 : Row y9.drew K 3 ([.int .i64 (k : Int)]) := K_9.old hd10
    have X_11 : Row y9.drew X 23 (u8s b) := X_9.old hd10
    have R_11 : Row y9.drew R 74 (zn) := R_9.old hd10
    have N_11 : Row y9.drew N 74 (ncs (k + 1) d b (nxt p k d b)) := N_9.old hd10
    have bel_11 : Below w.heap.size w y9.drew := below_step bel_9 bel_9.size hd10
    clear S_9 P_9 K_9 X_9 R_9 N_9 bel_9 hd10
    generalize y9.drew = yz10 at S_11 P_11 K_11 X_11 R_11 N_11 bel_11 ⊢
    refine h_take 0 (.pointer (some ⟨N, 0, none⟩)) rfl 29 rfl (by kernel_rfl) (by kernel_rfl) (by kernel_rfl) (by kernel_rfl) (fun _ _ _ h => h) (fun w' _ => by kernel_rfl) ⟨N_11, trivial⟩ ?_
    simp only [Act.put, List.setIfInBounds_toArray, List.set_cons_zero, List.set_cons_succ]
    refine h_take 1 (.int .i64 ((k + 1 : Nat) : Int)) rfl 30 rfl (by kernel_rfl) (by kernel_rfl) (by kernel_rfl) (by kernel_rfl) (fun _ _ _ h => h) (fun w' hw => run_op_load1 _ _ rfl (.int .i64) (by kernel_rfl) rfl ⟨N, 0, none⟩ rfl _ (hw.1.cell rfl)) ⟨N_11, trivial⟩ ?_
    simp only [Act.put, List.setIfInBounds_toArray, List.set_cons_zero, List.set_cons_succ]
    refine h_take 2 (.pointer (some ⟨N, 65, none⟩)) rfl 31 rfl (by kernel_rfl) (by kernel_rfl) (by kernel_rfl) (by kernel_rfl) (fun _ _ _ h => h) (fun w' _ => by kernel_rfl) ⟨N_11, trivial⟩ ?_
    simp only [Act.put, List.setIfInBounds_toArray, List.set_cons_zero, List.set_cons_succ]
    refine h_take 3 (.agg (u8s (nxt p k d b)).toArray) rfl 32 rfl (by kernel_rfl) (by kernel_rfl) (by kernel_rfl) (by kernel_rfl) (fun _ _ _ h => h) (fun w' hw => run_op_load _ _ rfl N (65) rfl (u8s (nxt p k d b)) (((n_d KD.out KB.out)).range hw.1) ((szH KN.out))) ⟨N_11, trivial⟩ ?_
    simp only [Act.put, List.setIfInBounds_toArray, List.set_cons_zero, List.set_cons_succ]
    have tw12 : Two K S w yz10 := Two.of_below K S bel_11
    clear bel_11
    refine h_one (i := 4) (by kernel_rfl) (o_skip rfl rfl (by kernel_rfl) (run_op_storeV _ _ _ rfl K 0 rfl (.int .i64 ((k + 1 : Nat) : Int)) rfl (by rfl) (by kernel_rfl) _ _ K_11 Nat.zero_lt_one) ?_)
    have rq := row_setRow K_11 ([.int .i64 (k : Int)].set 0 (.int .i64 ((k + 1 : Nat) : Int)))
    have oq := Only.setRow K yz10 ([.int .i64 (k : Int)].set 0 (.int .i64 ((k + 1 : Nat) : Int))).toArray
    generalize yz10.setRow K ([.int .i64 (k : Int)].set 0 (.int .i64 ((k + 1 : Nat) : Int))).toArray = y13 at rq oq ⊢
    have S_14 : Row y13 S 23 (u8s d) := S_11.only oq (by omega)
    have P_14 : Row y13 P 3 ([.int .i64 (p : Int)]) := P_11.only oq (by omega)
    have K_14 : Row y13 K 3 [.int .i64 ((k + 1 : Nat) : Int)] := rq
    have X_14 : Row y13 X 23 (u8s b) := X_11.only oq (by have := geX; have := LH.out; omega)
    have R_14 : Row y13 R 74 (zn) := R_11.only oq (by have := geR; have := LH.out; omega)
    have N_14 : Row y13 N 74 (ncs (k + 1) d b (nxt p k d b)) := N_11.only oq neKN.symm
    have tw_14 : Two K S w y13 := two_only tw12 oq (Or.inl rfl)
    clear S_11 P_11 K_11 X_11 R_11 N_11 tw12 oq
    clear rq
    refine ⟨⟨N_14, trivial⟩, ?_⟩
    have geS := (Or.inr (Or.inl rfl) : S = K ∨ S = S ∨ w.heap.size ≤ S)
    refine h_one (i := 5) (by kernel_rfl) (o_skip rfl rfl (by kernel_rfl) (run_op_store _ _ _ rfl S (0) rfl (u8s (nxt p k d b)) rfl _ _ S_14 (by rw [h_len KN.out, h_len KD.out]; omega) (u8s_one _) (szH KN.out)) ?_)
    have rq := row_setRow S_14 (lay (u8s d) (0) (u8s (nxt p k d b)))
    have oq := Only.setRow S y13 (lay (u8s d) (0) (u8s (nxt p k d b))).toArray
    generalize y13.setRow S (lay (u8s d) (0) (u8s (nxt p k d b))).toArray = y15 at rq oq ⊢
    have S_16 : Row y15 S 23 (u8s (nxt p k d b)) := rq.congr (lay_all _ _ (by rw [h_len KN.out, h_len KD.out]))
    have P_16 : Row y15 P 3 ([.int .i64 (p : Int)]) := P_14.only oq (by omega)
    have K_16 : Row y15 K 3 [.int .i64 ((k + 1 : Nat) : Int)] := K_14.only oq (by omega)
    have X_16 : Row y15 X 23 (u8s b) := X_14.only oq (by have := geX; have := LS.out; omega)
    have R_16 : Row y15 R 74 (zn) := R_14.only oq (by have := geR; have := LS.out; omega)
    have N_16 : Row y15 N 74 (ncs (k + 1) d b (nxt p k d b)) := N_14.only oq neNS
    have tw_16 : Two K S w y15 := two_only tw_14 oq (geS)
    clear S_14 P_14 K_14 X_14 R_14 N_14 tw_14 oq
    clear rq
    refine ⟨⟨N_16, trivial⟩, ?_⟩
    refine wpAnyH_done (by kernel_rfl) ?_ _
    go_wp2_with (first
      | ((with_reducible refine at_slot 33 ?_); (refine arm_load (o := ⟨some 33, _, _, _, _, _⟩) rfl _ _ rfl N 0 rfl (ncs (k + 1) d b (nxt p k d b)) ((Has.refl _).range N_16) (sz_node KD.out KB.out KN.out) ?_); try simp only [Act.put, List.setIfInBounds_toArray, List.set_cons_zero, List.set_cons_succ])
      | ((with_reducible refine arm_store (o := ⟨none, _, _, _, _, _⟩) rfl _ _ _ rfl R 0 rfl (ncs (k + 1) d b (nxt p k d b)) rfl _ _ (R_16) (fitN KD.out KB.out KN.out) (ncs_one _ _ _ _) (sz_node KD.out KB.out KN.out) ?_); intro y8 hy8 oy8 sy8; try simp only [Act.put, List.setIfInBounds_toArray, List.set_cons_zero, List.set_cons_succ]))
    exact bodyPost_ret (v := .agg (ncs (k + 1) d b (nxt p k d b)).toArray) (result_row (p := 5) (ty := 74) (u := 74) (by kernel_rfl) _ _ R (ncs (k + 1) d b (nxt p k d b)) rfl (hy8.congr (allN KD.out KB.out KN.out)) (sz_node KD.out KB.out KN.out)) rfl ⟨congrArg (fun c => Ending.returned (.agg c.toArray)) HE.out.symm, ⟨K_16.only oy8 (by have := geR; have := LH.out; omega), S_16.only oy8 (by have := geR; have := LS.out; omega), P_16.only oy8 (by have := geR; have := LP.out; omega), hPS, hSK⟩, two_only tw_16 oy8 (Or.inr (Or.inr geR))⟩
  · have HM : Hid (decide (((p / 2 ^ k % 2 : Nat) : Int) = 1) = true) := Lib.hid (decide_eq_true (by omega))
    have HL : Hid (lft p k d b = b) := Lib.hid (if_neg he); have HR : Hid (rgt p k d b = d) := Lib.hid (if_neg he)
    clear he
    go_wp2_with (first
      | ((with_reducible refine at_slot 12 ?_); (refine arm_want (.int .i64 (p : Int)) 12 rfl (by kernel_rfl) (run_op_load1 _ _ rfl (.int .i64) (by kernel_rfl) rfl ⟨P, 0, none⟩ rfl (.int .i64 (p : Int)) (P_6.cell rfl)) ?_); try simp only [Act.put, List.setIfInBounds_toArray, List.set_cons_zero, List.set_cons_succ])
      | ((with_reducible refine at_slot 13 ?_); (refine arm_want (.int .i64 (k : Int)) 13 rfl (by kernel_rfl) (run_op_load1 _ _ rfl (.int .i64) (by kernel_rfl) rfl ⟨K, 0, none⟩ rfl (.int .i64 (k : Int)) (K_6.cell rfl)) ?_); try simp only [Act.put, List.setIfInBounds_toArray, List.set_cons_zero, List.set_cons_succ])
      | ((with_reducible refine at_slot 14 ?_); (refine arm_want (.int .i64 ((p / 2 ^ k : Nat) : Int)) 14 rfl (by kernel_rfl) (run_op_shrI _ _ _ _ rfl p k rfl rfl HPQ.out HK64.out _) ?_); try simp only [Act.put, List.setIfInBounds_toArray, List.set_cons_zero, List.set_cons_succ])
      | ((with_reducible refine at_slot 15 ?_); (refine arm_want (.int .i64 ((p / 2 ^ k % 2 : Nat) : Int)) 15 rfl (by kernel_rfl) (run_op_andI _ _ _ _ rfl (p / 2 ^ k) rfl rfl HX16.out _) ?_); try simp only [Act.put, List.setIfInBounds_toArray, List.set_cons_zero, List.set_cons_succ])
      | ((with_reducible refine at_slot 16 ?_); (refine arm_want (.bool true) 16 rfl (by kernel_rfl) (cmp_eql _ _ .i64 (by kernel_rfl) _ _ rfl .i64 _ _ rfl rfl true HM.out _) ?_); try simp only [Act.put, List.setIfInBounds_toArray, List.set_cons_zero, List.set_cons_succ]))
    refine wp_region_held (S := fun w' => Row w' X 23 (u8s b) ∧ Row w' S 23 (u8s d) ∧ True) (by kernel_rfl) ?_
    change wpAnyH _ _ _ _ _ _ _ _ v5.drew
    have hd7 : Below v5.heap.size v5 v5.drew := (Below.refl _ _).drew
    have S_8 : Row v5.drew S 23 (u8s d) := S_6.old hd7
    have P_8 : Row v5.drew P 3 ([.int .i64 (p : Int)]) := P_6.old hd7
    have K_8 : Row v5.drew K 3 ([.int .i64 (k : Int)]) := K_6.old hd7
    have X_8 : Row v5.drew X 23 (u8s b) := X_6.old hd7
    have R_8 : Row v5.drew R 74 (zn) := R_6.old hd7
    have N_8 : Row v5.drew N 74 (ncs (k + 1) d b zh) := rrN.old hd7
    have bel_8 : Below w.heap.size w v5.drew := below_step bel_6 bel_6.size hd7
    clear S_6 P_6 K_6 X_6 R_6 rrN bel_6 hd7
    generalize v5.drew = yz7 at S_8 P_8 K_8 X_8 R_8 N_8 bel_8 ⊢
    refine h_take 0 (.agg (u8s b).toArray) rfl 17 rfl (by kernel_rfl) (by kernel_rfl) (by kernel_rfl) (by kernel_rfl) (fun _ _ _ h => h) (fun w' hw => run_op_load _ _ rfl X (0) rfl (u8s b) (((Has.refl _)).range hw.1) ((szH KB.out))) ⟨X_8, S_8, trivial⟩ ?_
    simp only [Act.put, List.setIfInBounds_toArray, List.set_cons_zero, List.set_cons_succ]
    refine h_take 1 (.agg (u8s d).toArray) rfl 18 rfl (by kernel_rfl) (by kernel_rfl) (by kernel_rfl) (by kernel_rfl) (fun _ _ _ h => h) (fun w' hw => run_op_load _ _ rfl S (0) rfl (u8s d) (((Has.refl _)).range hw.2.1) ((szH KD.out))) ⟨X_8, S_8, trivial⟩ ?_
    simp only [Act.put, List.setIfInBounds_toArray, List.set_cons_zero, List.set_cons_succ]
    refine h_take 2 (.pointer (some ⟨N, 1, none⟩)) rfl 19 rfl (by kernel_rfl) (by kernel_rfl) (by kernel_rfl) (by kernel_rfl) (fun _ _ _ h => h) (fun w' _ => by kernel_rfl) ⟨X_8, S_8, trivial⟩ ?_
    simp only [Act.put, List.setIfInBounds_toArray, List.set_cons_zero, List.set_cons_succ]
    refine h_one (i := 3) (by kernel_rfl) (o_skip rfl rfl (by kernel_rfl) (run_op_store _ _ _ rfl N (1) rfl (u8s b) rfl _ _ N_8 (by rw [ncs_len KD.out KB.out zh_ok, h_len KB.out]; omega) (u8s_one _) (szH KB.out)) ?_)
    have rq := row_setRow N_8 (lay (ncs (k + 1) d b zh) (1) (u8s b))
    have oq := Only.setRow N yz7 (lay (ncs (k + 1) d b zh) (1) (u8s b)).toArray
    generalize yz7.setRow N (lay (ncs (k + 1) d b zh) (1) (u8s b)).toArray = y9 at rq oq ⊢
    have S_10 : Row y9 S 23 (u8s d) := S_8.only oq neSN
    have P_10 : Row y9 P 3 ([.int .i64 (p : Int)]) := P_8.only oq nePN
    have K_10 : Row y9 K 3 ([.int .i64 (k : Int)]) := K_8.only oq neKN
    have X_10 : Row y9 X 23 (u8s b) := X_8.only oq neXN
    have R_10 : Row y9 R 74 (zn) := R_8.only oq neRN
    have N_10 : Row y9 N 74 (ncs (k + 1) b b zh) := rq.congr (n_setl KD.out KB.out)
    have bel_10 : Below w.heap.size w y9 := below_only bel_8 oq geN bel_8.size
    clear S_8 P_8 K_8 X_8 R_8 N_8 bel_8 oq
    clear rq
    refine ⟨⟨X_10, S_10, trivial⟩, ?_⟩
    refine h_take 4 (.pointer (some ⟨N, 33, none⟩)) rfl 20 rfl (by kernel_rfl) (by kernel_rfl) (by kernel_rfl) (by kernel_rfl) (fun _ _ _ h => h) (fun w' _ => by kernel_rfl) ⟨X_10, S_10, trivial⟩ ?_
    simp only [Act.put, List.setIfInBounds_toArray, List.set_cons_zero, List.set_cons_succ]
    refine h_one (i := 5) (by kernel_rfl) (o_skip rfl rfl (by kernel_rfl) (run_op_store _ _ _ rfl N (33) rfl (u8s d) rfl _ _ N_10 (by rw [ncs_len KB.out KB.out zh_ok, h_len KD.out]; omega) (u8s_one _) (szH KD.out)) ?_)
    have rq := row_setRow N_10 (lay (ncs (k + 1) b b zh) (33) (u8s d))
    have oq := Only.setRow N y9 (lay (ncs (k + 1) b b zh) (33) (u8s d)).toArray
    generalize y9.setRow N (lay (ncs (k + 1) b b zh) (33) (u8s d)).toArray = y11 at rq oq ⊢
    have S_12 : Row y11 S 23 (u8s d) := S_10.only oq neSN
    have P_12 : Row y11 P 3 ([.int .i64 (p : Int)]) := P_10.only oq nePN
    have K_12 : Row y11 K 3 ([.int .i64 (k : Int)]) := K_10.only oq neKN
    have X_12 : Row y11 X 23 (u8s b) := X_10.only oq neXN
    have R_12 : Row y11 R 74 (zn) := R_10.only oq neRN
    have N_12 : Row y11 N 74 (ncs (k + 1) b d zh) := rq.congr (n_setr KB.out KB.out KD.out)
    have bel_12 : Below w.heap.size w y11 := below_only bel_10 oq geN bel_10.size
    clear S_10 P_10 K_10 X_10 R_10 N_10 bel_10 oq
    clear rq
    refine ⟨⟨X_12, S_12, trivial⟩, ?_⟩
    refine wpAnyH_done (by kernel_rfl) ?_ _
    go_wp2_with (first
      | ((with_reducible refine at_slot 22 ?_); (refine arm_want (.int .i64 ((k + 1 : Nat) : Int)) 22 rfl (by kernel_rfl) (run_op_load1 _ _ rfl (.int .i64) (by kernel_rfl) rfl ⟨N, 0, none⟩ rfl (.int .i64 ((k + 1 : Nat) : Int)) (N_12.cell rfl)) ?_); try simp only [Act.put, List.setIfInBounds_toArray, List.set_cons_zero, List.set_cons_succ])
      | ((with_reducible refine at_slot 24 ?_); (refine arm_load (o := ⟨some 24, _, _, _, _, _⟩) rfl _ _ rfl N 1 rfl (u8s b) ((n_l _ _ _ _).range N_12) (szH KB.out) ?_); try simp only [Act.put, List.setIfInBounds_toArray, List.set_cons_zero, List.set_cons_succ])
      | ((with_reducible refine at_slot 26 ?_); (refine arm_load (o := ⟨some 26, _, _, _, _, _⟩) rfl _ _ rfl N 33 rfl (u8s d) ((n_r KB.out).range N_12) (szH KD.out) ?_); try simp only [Act.put, List.setIfInBounds_toArray, List.set_cons_zero, List.set_cons_succ]))
    have CJ2 := Lib.hid CJ.out
    rw [HL.out, HR.out] at CJ2
    have HE : Hid (ncs (k + 1) (lft p k d b) (rgt p k d b) (nxt p k d b) = ncs (k + 1) b d (nxt p k d b)) := Lib.hid (by rw [HL.out, HR.out])
    skip
    refine (CJ2.out _ (HKW.out _ bel_12)).mono ?_
    rintro e y13 ⟨rfl, hB⟩
    have S_14 : Row y13 S 23 (u8s d) := S_12.old hB
    have P_14 : Row y13 P 3 ([.int .i64 (p : Int)]) := P_12.old hB
    have K_14 : Row y13 K 3 ([.int .i64 (k : Int)]) := K_12.old hB
    have X_14 : Row y13 X 23 (u8s b) := X_12.old hB
    have R_14 : Row y13 R 74 (zn) := R_12.old hB
    have N_14 : Row y13 N 74 (ncs (k + 1) b d zh) := N_12.old hB
    have bel_14 : Below w.heap.size w y13 := below_step bel_12 bel_12.size hB
    clear S_12 P_12 K_12 X_12 R_12 N_12 bel_12 hB
    go_wp2_with (first
      | ((with_reducible refine arm_store (o := ⟨none, _, _, _, _, _⟩) rfl _ _ _ rfl N 65 rfl (u8s (nxt p k d b)) rfl _ _ (N_14) (by rw [ncs_len KB.out KD.out zh_ok, h_len KN.out]; omega) (u8s_one _) (szH KN.out) ?_); intro y9 hy9 oy9 sy9; try simp only [Act.put, List.setIfInBounds_toArray, List.set_cons_zero, List.set_cons_succ]))
    clear sy9
    have S_15 : Row y9 S 23 (u8s d) := S_14.only oy9 neSN
    have P_15 : Row y9 P 3 ([.int .i64 (p : Int)]) := P_14.only oy9 nePN
    have K_15 : Row y9 K 3 ([.int .i64 (k : Int)]) := K_14.only oy9 neKN
    have X_15 : Row y9 X 23 (u8s b) := X_14.only oy9 neXN
    have R_15 : Row y9 R 74 (zn) := R_14.only oy9 neRN
    have N_15 : Row y9 N 74 (ncs (k + 1) b d (nxt p k d b)) := hy9.congr (n_setd KB.out KD.out zh_ok KN.out)
    have bel_15 : Below w.heap.size w y9 := below_only bel_14 oy9 geN bel_14.size
    clear S_14 P_14 K_14 X_14 R_14 N_14 bel_14 oy9
    clear hy9
    refine wp_region_held (S := fun w' => Row w' N 74 (ncs (k + 1) b d (nxt p k d b)) ∧ True) (by kernel_rfl) ?_
    change wpAnyH _ _ _ _ _ _ _ _ y9.drew
    have hd16 : Below y9.heap.size y9 y9.drew := (Below.refl _ _).drew
    have S_17 : Row y9.drew S 23 (u8s d) := S_15.old hd16
    have P_17 : Row y9.drew P 3 ([.int .i64 (p : Int)]) := P_15.old hd16
    have K_17 : Row y9.drew K 3 ([.int .i64 (k : Int)]) := K_15.old hd16
    have X_17 : Row y9.drew X 23 (u8s b) := X_15.old hd16
    have R_17 : Row y9.drew R 74 (zn) := R_15.old hd16
    have N_17 : Row y9.drew N 74 (ncs (k + 1) b d (nxt p k d b)) := N_15.old hd16
    have bel_17 : Below w.heap.size w y9.drew := below_step bel_15 bel_15.size hd16
    clear S_15 P_15 K_15 X_15 R_15 N_15 bel_15 hd16
    generalize y9.drew = yz16 at S_17 P_17 K_17 X_17 R_17 N_17 bel_17 ⊢
    refine h_take 0 (.pointer (some ⟨N, 0, none⟩)) rfl 29 rfl (by kernel_rfl) (by kernel_rfl) (by kernel_rfl) (by kernel_rfl) (fun _ _ _ h => h) (fun w' _ => by kernel_rfl) ⟨N_17, trivial⟩ ?_
    simp only [Act.put, List.setIfInBounds_toArray, List.set_cons_zero, List.set_cons_succ]
    refine h_take 1 (.int .i64 ((k + 1 : Nat) : Int)) rfl 30 rfl (by kernel_rfl) (by kernel_rfl) (by kernel_rfl) (by kernel_rfl) (fun _ _ _ h => h) (fun w' hw => run_op_load1 _ _ rfl (.int .i64) (by kernel_rfl) rfl ⟨N, 0, none⟩ rfl _ (hw.1.cell rfl)) ⟨N_17, trivial⟩ ?_
    simp only [Act.put, List.setIfInBounds_toArray, List.set_cons_zero, List.set_cons_succ]
    refine h_take 2 (.pointer (some ⟨N, 65, none⟩)) rfl 31 rfl (by kernel_rfl) (by kernel_rfl) (by kernel_rfl) (by kernel_rfl) (fun _ _ _ h => h) (fun w' _ => by kernel_rfl) ⟨N_17, trivial⟩ ?_
    simp only [Act.put, List.setIfInBounds_toArray, List.set_cons_zero, List.set_cons_succ]
    refine h_take 3 (.agg (u8s (nxt p k d b)).toArray) rfl 32 rfl (by kernel_rfl) (by kernel_rfl) (by kernel_rfl) (by kernel_rfl) (fun _ _ _ h => h) (fun w' hw => run_op_load _ _ rfl N (65) rfl (u8s (nxt p k d b)) (((n_d KB.out KD.out)).range hw.1) ((szH KN.out))) ⟨N_17, trivial⟩ ?_
    simp only [Act.put, List.setIfInBounds_toArray, List.set_cons_zero, List.set_cons_succ]
    have tw18 : Two K S w yz16 := Two.of_below K S bel_17
    clear bel_17
    refine h_one (i := 4) (by kernel_rfl) (o_skip rfl rfl (by kernel_rfl) (run_op_storeV _ _ _ rfl K 0 rfl (.int .i64 ((k + 1 : Nat) : Int)) rfl (by rfl) (by kernel_rfl) _ _ K_17 Nat.zero_lt_one) ?_)
    have rq := row_setRow K_17 ([.int .i64 (k : Int)].set 0 (.int .i64 ((k + 1 : Nat) : Int)))
    have oq := Only.setRow K yz16 ([.int .i64 (k : Int)].set 0 (.int .i64 ((k + 1 : Nat) : Int))).toArray
    generalize yz16.setRow K ([.int .i64 (k : Int)].set 0 (.int .i64 ((k + 1 : Nat) : Int))).toArray = y19 at rq oq ⊢
    have S_20 : Row y19 S 23 (u8s d) := S_17.only oq (by omega)
    have P_20 : Row y19 P 3 ([.int .i64 (p : Int)]) := P_17.only oq (by omega)
    have K_20 : Row y19 K 3 [.int .i64 ((k + 1 : Nat) : Int)] := rq
    have X_20 : Row y19 X 23 (u8s b) := X_17.only oq (by have := geX; have := LH.out; omega)
    have R_20 : Row y19 R 74 (zn) := R_17.only oq (by have := geR; have := LH.out; omega)
    have N_20 : Row y19 N 74 (ncs (k + 1) b d (nxt p k d b)) := N_17.only oq neKN.symm
    have tw_20 : Two K S w y19 := two_only tw18 oq (Or.inl rfl)
    clear S_17 P_17 K_17 X_17 R_17 N_17 tw18 oq
    clear rq
    refine ⟨⟨N_20, trivial⟩, ?_⟩
    have geS := (Or.inr (Or.inl rfl) : S = K ∨ S = S ∨ w.heap.size ≤ S)
    refine h_one (i := 5) (by kernel_rfl) (o_skip rfl rfl (by kernel_rfl) (run_op_store _ _ _ rfl S (0) rfl (u8s (nxt p k d b)) rfl _ _ S_20 (by rw [h_len KN.out, h_len KD.out]; omega) (u8s_one _) (szH KN.out)) ?_)
    have rq := row_setRow S_20 (lay (u8s d) (0) (u8s (nxt p k d b)))
    have oq := Only.setRow S y19 (lay (u8s d) (0) (u8s (nxt p k d b))).toArray
    generalize y19.setRow S (lay (u8s d) (0) (u8s (nxt p k d b))).toArray = y21 at rq oq ⊢
    have S_22 : Row y21 S 23 (u8s (nxt p k d b)) := rq.congr (lay_all _ _ (by rw [h_len KN.out, h_len KD.out]))
    have P_22 : Row y21 P 3 ([.int .i64 (p : Int)]) := P_20.only oq (by omega)
    have K_22 : Row y21 K 3 [.int .i64 ((k + 1 : Nat) : Int)] := K_20.only oq (by omega)
    have X_22 : Row y21 X 23 (u8s b) := X_20.only oq (by have := geX; have := LS.out; omega)
    have R_22 : Row y21 R 74 (zn) := R_20.only oq (by have := geR; have := LS.out; omega)
    have N_22 : Row y21 N 74 (ncs (k + 1) b d (nxt p k d b)) := N_20.only oq neNS
    have tw_22 : Two K S w y21 := two_only tw_20 oq (geS)
    clear S_20 P_20 K_20 X_20 R_20 N_20 tw_20 oq
    clear rq
    refine ⟨⟨N_22, trivial⟩, ?_⟩
    refine wpAnyH_done (by kernel_rfl) ?_ _
    go_wp2_with (first
      | ((with_reducible refine at_slot 33 ?_); (refine arm_load (o := ⟨some 33, _, _, _, _, _⟩) rfl _ _ rfl N 0 rfl (ncs (k + 1) b d (nxt p k d b)) ((Has.refl _).range N_22) (sz_node KB.out KD.out KN.out) ?_); try simp only [Act.put, List.setIfInBounds_toArray, List.set_cons_zero, List.set_cons_succ])
      | ((with_reducible refine arm_store (o := ⟨none, _, _, _, _, _⟩) rfl _ _ _ rfl R 0 rfl (ncs (k + 1) b d (nxt p k d b)) rfl _ _ (R_22) (fitN KB.out KD.out KN.out) (ncs_one _ _ _ _) (sz_node KB.out KD.out KN.out) ?_); intro y8 hy8 oy8 sy8; try simp only [Act.put, List.setIfInBounds_toArray, List.set_cons_zero, List.set_cons_succ]))
    exact bodyPost_ret (v := .agg (ncs (k + 1) b d (nxt p k d b)).toArray) (result_row (p := 5) (ty := 74) (u := 74) (by kernel_rfl) _ _ R (ncs (k + 1) b d (nxt p k d b)) rfl (hy8.congr (allN KB.out KD.out KN.out)) (sz_node KB.out KD.out KN.out)) rfl ⟨congrArg (fun c => Ending.returned (.agg c.toArray)) HE.out.symm, ⟨K_22.only oy8 (by have := geR; have := LH.out; omega), S_22.only oy8 (by have := geR; have := LS.out; omega), P_22.only oy8 (by have := geR; have := LP.out; omega), hPS, hSK⟩, two_only tw_22 oy8 (Or.inr (Or.inr geR))⟩
end Go.Proofs.YtaihhbiocolhcaaDoor.Pf
