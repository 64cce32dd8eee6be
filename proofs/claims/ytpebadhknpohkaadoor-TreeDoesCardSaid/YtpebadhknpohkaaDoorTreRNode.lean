/-
  The contracts of the document's tree: Node and Root. Over this seat's translation.
-/
import Derived.Test.YtpebadhknpohkaaDoorTreRef
import Derived.Test.YtpebadhknpohkaaDoorTrePath
import Derived.Test.YtpebadhknpohkaaDoorAccRefAll
namespace Go.Proofs.YtpebadhknpohkaaDoor.Tr
open Go.ChangeShapes Go.WideShapes Go.ChangeAt Go.RowKit Go.Proofs.YtpebadhknpohkaaDoor.Mem Go.Proofs.YtpebadhknpohkaaDoor.Bt Go.Proofs.YtpebadhknpohkaaDoor.Wi Go.Proofs.YtpebadhknpohkaaDoor.Sha Go.Proofs.YtpebadhknpohkaaDoor.Ac Go.Proofs.YtpebadhknpohkaaDoor.Im
open Go.Proofs.YtpebadhknpohkaaDoor.Tg (bytesOf bytesOf_length bytesOf_lt bytesOf_inj Rd Rd.below Parts parts_one arm_one tagD tagD_len tagOf_any refTag_any total)
open Go.Proofs.YtpebadhknpohkaaDoor.Ep (H32 zh zh_ok Has h_len szH zH fitH allH came_at)
set_option linter.unusedVariables false
set_option linter.unusedSimpArgs false

set_option maxHeartbeats 4000000 in
set_option maxRecDepth 100000 in
theorem rnode_any (C : Nat) (t : Tree) (hg : Good t) : ∀ (h i : Nat) (w : World), h ≤ 4 → (i + 1) * 2 ^ h ≤ 16 → RAt w C t → w.rangeAt 1 0 (u32s ks) →
    Calls Tryd.prog 29 #[.pointer (some ⟨C, 0, none⟩), .int .i64 (h : Int), .int .i64 (i : Int)] w fun e w' => e = .returned (.agg (u8s (nodeD t h i)).toArray) ∧ Below w.heap.size w w' := by
  intro h
  induction h with
  | zero =>
    intro i w h4 hi ht hk
    have hk1 : 1 < w.heap.size := range_lt hk (by simp [u32s, ks])
    have HKW : Hid (∀ w', Below w.heap.size w w' → w'.rangeAt 1 0 (u32s ks)) := Lib.hid fun w' hb => range_block hk (hb.block _ hk1)
    have KD := Lib.hid (node_ok t 0 i)
    have hi16 : i < 16 := by have : i + 1 ≤ 16 := by simpa using hi
                             omega
    have HI := Lib.hid hi16
    have HR : Hid (∀ w0, RAt w0 C t → w0.rangeAt C (i * 3) (acs ((t i).getD za)) ∧ w0.cell? ⟨C, 48 + i, none⟩ = some (.bool (t i).isSome)) := Lib.hid fun w0 h => ⟨h.acc hi16, h.is hi16⟩
    have HG := Lib.hid hg
    clear hk hk1 hg h4 hi hi16
    obtain ⟨dd, hdd⟩ : ∃ dd, dd = nodeD t 0 i := ⟨_, rfl⟩
    have HD := Lib.hid hdd
    rw [← hdd] at KD ⊢
    clear hdd
    cases hti : t i with
    | none =>
      rw [hti] at HR
      have CM : Hid (∀ w0, w0.rangeAt 1 0 (u32s ks) → Calls Tryd.prog 35 #[] w0 fun e w' => e = .returned (.agg (u8s dd).toArray) ∧ Below w0.heap.size w0 w') := Lib.hid fun w0 h => by
        have e1 : dd = digE := by rw [HD.out]; unfold nodeD leafD; rw [hti]
        rw [e1]
        exact rnone_any w0 h
      go_enter Tryd.func29, Tryd.ntmps29
      go_wp2_with (first
        | ((with_reducible refine at_slot 6 ?_); (refine arm_alloc (o := ⟨some 6, _, _, _, _, _⟩) rfl _ rfl (u8s zh) zH ?_); intro R v1 Re hv1 nv1; have ht1 := ht.old nv1.below; have hcb := (HR.out v1 ht1).2)
        | ((with_reducible refine at_slot 30 ?_); (refine arm_want (.pointer (some ⟨C, 48 + i, none⟩)) 30 rfl (by kernel_rfl) (run_op_arr _ _ _ rfl 16 4 1 (by kernel_rfl) (by kernel_rfl) C 48 rfl .i64 _ rfl i rfl HI.out (48 + i) (by omega) _) ?_))
        | ((with_reducible refine at_slot 31 ?_); (refine arm_want (.bool false) 31 rfl (by kernel_rfl) (run_op_load1 _ _ rfl .bool (by kernel_rfl) rfl ⟨C, 48 + i, none⟩ rfl _ hcb) ?_)))
      have geR : w.heap.size ≤ R := by have := Re.out; omega
      have hb1 := nv1.below
      have rr : Row v1 R 50 (u8s zh) := hv1
      clear hv1 nv1 Re hcb
      refine (CM.out _ (HKW.out _ hb1)).mono ?_
      rintro e y1 ⟨rfl, hB⟩
      have T_2 : RAt y1 C t := ht1.old hB
      have R_2 : Row y1 R 50 (u8s zh) := rr.old hB
      have bel_2 : Below w.heap.size w y1 := below_step hb1 hb1.size hB
      clear ht1 rr hb1 hB
      go_wp2_with (first
        | ((with_reducible refine arm_store (o := ⟨none, _, _, _, _, _⟩) rfl _ _ _ rfl R 0 rfl (u8s dd) rfl _ _ (R_2) (fitH KD.out) (u8s_one _) (szH KD.out) ?_); intro y9 hy9 oy9 sy9))
      exact bodyPost_ret (v := .agg (u8s dd).toArray) (result_row (p := 6) (ty := 50) (u := 50) (by kernel_rfl) _ _ R (u8s dd) rfl (hy9.congr (allH KD.out)) (szH KD.out)) rfl ⟨rfl, below_only bel_2 oy9 geR bel_2.size⟩
    | some a =>
      rw [hti] at HR
      have hga := HG.out i a hti
      have CH : Hid (∀ w0, w0.rangeAt 1 0 (u32s ks) → Calls Tryd.prog 36 #[.agg (acs a).toArray] w0 fun e w' => e = .returned (.tuple #[.agg (u8s dd).toArray, .int .i64 0]) ∧ Below w0.heap.size w0 w') := Lib.hid fun w0 h => (rhash_any a w0 hga.2.1 h).mono fun e w' h => ⟨by
        have h3 := h.ret
        have e1 : ansH a = dd := by rw [HD.out]; unfold ansH nodeD leafD; rw [if_pos hga.2.2, hti]
        have e2 : ansE a = 0 := by unfold ansE; rw [if_pos hga.2.2]
        rw [e1, e2] at h3; exact h3, h.bel⟩
      have HR1 : Hid (∀ w0, RAt w0 C t → w0.rangeAt C (i * 3) (acs a)) := Lib.hid fun w0 h => (HR.out w0 h).1
      have KA := Lib.hid (sz_racc a)
      clear hga
      go_enter Tryd.func29, Tryd.ntmps29
      go_wp2_with (first
        | ((with_reducible refine at_slot 6 ?_); (refine arm_alloc (o := ⟨some 6, _, _, _, _, _⟩) rfl _ rfl (u8s zh) zH ?_); intro R v1 Re hv1 nv1; have ht1 := ht.old nv1.below; have hcb := (HR.out v1 ht1).2; have hra := HR1.out v1 ht1)
        | ((with_reducible refine at_slot 30 ?_); (refine arm_want (.pointer (some ⟨C, 48 + i, none⟩)) 30 rfl (by kernel_rfl) (run_op_arr _ _ _ rfl 16 4 1 (by kernel_rfl) (by kernel_rfl) C 48 rfl .i64 _ rfl i rfl HI.out (48 + i) (by omega) _) ?_))
        | ((with_reducible refine at_slot 31 ?_); (refine arm_want (.bool true) 31 rfl (by kernel_rfl) (run_op_load1 _ _ rfl .bool (by kernel_rfl) rfl ⟨C, 48 + i, none⟩ rfl _ hcb) ?_))
        | ((with_reducible refine at_slot 39 ?_); (refine arm_want (.pointer (some ⟨C, i * 3, none⟩)) 39 rfl (by kernel_rfl) (run_op_arr _ _ _ rfl 16 31 3 (by kernel_rfl) (by kernel_rfl) C 0 rfl .i64 _ rfl i rfl HI.out (i * 3) (by omega) _) ?_))
        | ((with_reducible refine at_slot 40 ?_); (refine arm_load (o := ⟨some 40, _, _, _, _, _⟩) rfl _ _ rfl C (i * 3) rfl (acs a) (hra) KA.out ?_)))
      have geR : w.heap.size ≤ R := by have := Re.out; omega
      have hb1 := nv1.below
      have rr : Row v1 R 50 (u8s zh) := hv1
      clear hv1 nv1 Re hcb hra
      refine (CH.out _ (HKW.out _ hb1)).mono ?_
      rintro e y1 ⟨rfl, hB⟩
      have T_2 : RAt y1 C t := ht1.old hB
      have R_2 : Row y1 R 50 (u8s zh) := rr.old hB
      have bel_2 : Below w.heap.size w y1 := below_step hb1 hb1.size hB
      clear ht1 rr hb1 hB
      go_wp2_with (first
        | ((with_reducible refine at_slot 7 ?_); (refine arm_alloc (o := ⟨some 7, _, _, _, _, _⟩) rfl _ rfl (u8s zh) zH ?_); intro L v3a Le hLa nL)
        | ((with_reducible refine arm_store (o := ⟨none, _, _, _, _, _⟩) rfl _ _ _ rfl L 0 rfl (u8s dd) rfl _ _ hLa (fitH KD.out) (u8s_one _) (szH KD.out) ?_); intro v3 hLb oL sL)
        | ((with_reducible refine at_slot 44 ?_); (refine arm_load (o := ⟨some 44, _, _, _, _, _⟩) rfl _ _ rfl L 0 rfl (u8s dd) ((Has.refl _).range (hLb.congr (allH KD.out))) (szH KD.out) ?_))
        | ((with_reducible refine arm_store (o := ⟨none, _, _, _, _, _⟩) rfl _ _ _ rfl R 0 rfl (u8s dd) rfl _ _ (((R_2.old nL.below).only oL (by have := Le.out; have := R_2.lt; omega))) (fitH KD.out) (u8s_one _) (szH KD.out) ?_); intro y9 hy9 oy9 sy9))
      have lL : y1.heap.size ≤ L := by have := Le.out; omega
      have bL : Below y1.heap.size y1 v3 := below_only nL.below oL lL nL.below.size
      have rrL : Row v3 L 50 (u8s dd) := hLb.congr (allH KD.out)
      have geL : w.heap.size ≤ L := Nat.le_trans bel_2.size lL
      clear hLa hLb nL oL sL Le lL
      have T_4 : RAt v3 C t := T_2.old bL
      have R_4 : Row v3 R 50 (u8s zh) := R_2.old bL
      have bel_4 : Below w.heap.size w v3 := below_step bel_2 bel_2.size bL
      clear T_2 R_2 bel_2 bL
      exact bodyPost_ret (v := .agg (u8s dd).toArray) (result_row (p := 6) (ty := 50) (u := 50) (by kernel_rfl) _ _ R (u8s dd) rfl (hy9.congr (allH KD.out)) (szH KD.out)) rfl ⟨rfl, below_only bel_4 oy9 geR bel_4.size⟩
  | succ h IH =>
    intro i w h4 hi ht hk
    have hk1 : 1 < w.heap.size := range_lt hk (by simp [u32s, ks])
    have HKW : Hid (∀ w', Below w.heap.size w w' → w'.rangeAt 1 0 (u32s ks)) := Lib.hid fun w' hb => range_block hk (hb.block _ hk1)
    have KD := Lib.hid (node_ok t (h + 1) i)
    have hi2 : (2 * i + 2) * 2 ^ h ≤ 16 := by rw [Nat.pow_succ] at hi; rw [show (2 * i + 2) * 2 ^ h = (i + 1) * (2 ^ h * 2) by rw [Nat.mul_comm (2 ^ h) 2, ← Nat.mul_assoc]; congr 1; omega]; exact hi
    have hi1 : (2 * i + 1) * 2 ^ h ≤ 16 := Nat.le_trans (Nat.mul_le_mul_right _ (by omega)) hi2
    have hi16 : i < 16 := by have h1 : i + 1 ≤ (i + 1) * 2 ^ (h + 1) := Nat.le_mul_of_pos_right _ (Nat.pow_pos (by omega)); omega
    have CL := Lib.hid (fun w0 h0 h1 => IH (2 * i) w0 (by omega) hi1 h0 h1)
    have CR := Lib.hid (fun w0 h0 h1 => IH (2 * i + 1) w0 (by omega) hi2 h0 h1)
    have CJ := Lib.hid (fun w0 h0 => rjoin_any (h + 1) (nodeD t h (2 * i)) (nodeD t h (2 * i + 1)) w0 (by omega) (node_ok t h _) (node_ok t h _) h0)
    clear hk hk1 hg hi hi1 hi2 IH
    rw [show joinD (h + 1) (nodeD t h (2 * i)) (nodeD t h (2 * i + 1)) = nodeD t (h + 1) i from rfl] at CJ
    generalize nodeD t (h + 1) i = dd at KD CJ ⊢
    generalize nodeD t h (2 * i) = dl at CL CJ
    generalize nodeD t h (2 * i + 1) = dr at CR CJ
    have hw1 : IntKind.i64.wrap (((h + 1 : Nat) : Int) - 1) = (h : Int) := by rw [IntKind.wrap_i64]; omega
    have hw2 : IntKind.i64.wrap (2 * (i : Int)) = ((2 * i : Nat) : Int) := by rw [IntKind.wrap_i64]; omega
    have hw3 : IntKind.i64.wrap (((2 * i : Nat) : Int) + 1) = ((2 * i + 1 : Nat) : Int) := by rw [IntKind.wrap_i64]; omega
    have H1 := Lib.hid hw1; have H2 := Lib.hid hw2; have H3 := Lib.hid hw3
    have HNZ : Hid ((0 : Int) < ((h + 1 : Nat) : Int)) := Lib.hid (by omega)
    obtain ⟨n, hn⟩ : ∃ n, n = h + 1 := ⟨_, rfl⟩
    rw [← hn] at H1 CJ HNZ ⊢
    obtain ⟨i2, hi2⟩ : ∃ i2, i2 = 2 * i := ⟨_, rfl⟩
    rw [← hi2] at H2 H3 CL
    obtain ⟨i3, hi3⟩ : ∃ i3, i3 = 2 * i + 1 := ⟨_, rfl⟩
    rw [show i2 + 1 = i3 by omega] at H3
    rw [← hi3] at CR
    clear hw1 hw2 hw3 hn hi2 hi3 h4
    go_enter Tryd.func29, Tryd.ntmps29
    go_wp2_with (first
      | ((with_reducible refine at_slot 6 ?_); (refine arm_alloc (o := ⟨some 6, _, _, _, _, _⟩) rfl _ rfl (u8s zh) zH ?_); intro R v1 Re hv1 nv1)
      | ((with_reducible refine at_slot 10 ?_); (refine arm_want (.bool true) 10 rfl (by kernel_rfl) (cmp_gtr _ _ _ _ rfl .i64 ((n : Int)) (0) rfl rfl true (decide_eq_true HNZ.out) _) ?_))
      | ((with_reducible refine at_slot 14 ?_); (refine arm_want (.int .i64 (h : Int)) 14 rfl (by kernel_rfl) (run_op_sub64 _ _ _ _ rfl _ _ _ rfl rfl H1.out _) ?_))
      | ((with_reducible refine at_slot 16 ?_); (refine arm_want (.int .i64 (i2 : Int)) 16 rfl (by kernel_rfl) (run_op_mul64 _ _ _ _ rfl _ _ _ rfl rfl H2.out _) ?_)))
    have hbv1 := nv1.below
    have rrv1 : Row v1 R 50 (u8s zh) := hv1
    have geR : w.heap.size ≤ R := by have := Re.out; omega
    clear hv1 nv1 Re
    have T_2 : RAt v1 C t := ht.old hbv1
    have bel_2 : Below w.heap.size w v1 := hbv1
    clear ht hbv1
    refine (CL.out _ T_2 (HKW.out _ bel_2)).mono ?_
    rintro e y3 ⟨rfl, hB⟩
    have T_4 : RAt y3 C t := T_2.old hB
    have R_4 : Row y3 R 50 (u8s zh) := rrv1.old hB
    have bel_4 : Below w.heap.size w y3 := below_step bel_2 bel_2.size hB
    clear T_2 rrv1 bel_2 hB
    go_wp2_with (first
      | ((with_reducible refine at_slot 20 ?_); (refine arm_want (.int .i64 (h : Int)) 20 rfl (by kernel_rfl) (run_op_sub64 _ _ _ _ rfl _ _ _ rfl rfl H1.out _) ?_))
      | ((with_reducible refine at_slot 22 ?_); (refine arm_want (.int .i64 (i2 : Int)) 22 rfl (by kernel_rfl) (run_op_mul64 _ _ _ _ rfl _ _ _ rfl rfl H2.out _) ?_))
      | ((with_reducible refine at_slot 23 ?_); (refine arm_want (.int .i64 (i3 : Int)) 23 rfl (by kernel_rfl) (run_op_addK _ _ _ _ rfl _ _ _ rfl rfl H3.out _) ?_)))
    refine (CR.out _ T_4 (HKW.out _ bel_4)).mono ?_
    rintro e y5 ⟨rfl, hB⟩
    have T_6 : RAt y5 C t := T_4.old hB
    have R_6 : Row y5 R 50 (u8s zh) := R_4.old hB
    have bel_6 : Below w.heap.size w y5 := below_step bel_4 bel_4.size hB
    clear T_4 R_4 bel_4 hB
    go_wp2_with fail
    refine (CJ.out _ (HKW.out _ bel_6)).mono ?_
    rintro e y7 ⟨rfl, hB⟩
    have T_8 : RAt y7 C t := T_6.old hB
    have R_8 : Row y7 R 50 (u8s zh) := R_6.old hB
    have bel_8 : Below w.heap.size w y7 := below_step bel_6 bel_6.size hB
    clear T_6 R_6 bel_6 hB
    go_wp2_with (first
      | ((with_reducible refine arm_store (o := ⟨none, _, _, _, _, _⟩) rfl _ _ _ rfl R 0 rfl (u8s dd) rfl _ _ (R_8) (fitH KD.out) (u8s_one _) (szH KD.out) ?_); intro y9 hy9 oy9 sy9))
    exact bodyPost_ret (v := .agg (u8s dd).toArray) (result_row (p := 6) (ty := 50) (u := 50) (by kernel_rfl) _ _ R (u8s dd) rfl (hy9.congr (allH KD.out)) (szH KD.out)) rfl ⟨rfl, below_only bel_8 oy9 geR bel_8.size⟩
set_option maxHeartbeats 4000000 in
set_option maxRecDepth 100000 in
theorem rroot_any (C : Nat) (t : Tree) (w : World) (ht : RAt w C t) (hg : Good t) (hk : w.rangeAt 1 0 (u32s ks)) :
    Calls Tryd.prog 20 #[.pointer (some ⟨C, 0, none⟩)] w fun e w' => e = .returned (.agg (u8s (rootD t)).toArray) ∧ Below w.heap.size w w' := by
  have hk1 : 1 < w.heap.size := range_lt hk (by simp [u32s, ks])
  have HKW : Hid (∀ w', Below w.heap.size w w' → w'.rangeAt 1 0 (u32s ks)) := Lib.hid fun w' hb => range_block hk (hb.block _ hk1)
  have CN : Hid (∀ w0, RAt w0 C t → w0.rangeAt 1 0 (u32s ks) → Calls Tryd.prog 29 #[.pointer (some ⟨C, 0, none⟩), .int .i64 4, .int .i64 0] w0 fun e w' => e = .returned (.agg (u8s (rootD t)).toArray) ∧ Below w0.heap.size w0 w') := Lib.hid fun w0 h0 h1 => rnode_any C t hg 4 0 w0 (by omega) (by decide) h0 h1
  have KD := Lib.hid (root_ok t)
  clear hk hk1 hg
  generalize rootD t = dd at CN KD ⊢
  go_enter Tryd.func20, Tryd.ntmps20
  go_wp2_with (first
    | ((with_reducible refine at_slot 2 ?_); (refine arm_alloc (o := ⟨some 2, _, _, _, _, _⟩) rfl _ rfl (u8s zh) zH ?_); intro R v1 Re hv1 nv1))
  have hbv1 := nv1.below
  have rrv1 : Row v1 R 50 (u8s zh) := hv1
  have geR : w.heap.size ≤ R := by have := Re.out; omega
  clear hv1 nv1 Re
  have T_2 : RAt v1 C t := ht.old hbv1
  have bel_2 : Below w.heap.size w v1 := hbv1
  clear ht hbv1
  go_wp2_with fail
  refine (CN.out _ T_2 (HKW.out _ bel_2)).mono ?_
  rintro e y3 ⟨rfl, hB⟩
  have T_4 : RAt y3 C t := T_2.old hB
  have R_4 : Row y3 R 50 (u8s zh) := rrv1.old hB
  have bel_4 : Below w.heap.size w y3 := below_step bel_2 bel_2.size hB
  clear T_2 rrv1 bel_2 hB
  go_wp2_with (first
    | ((with_reducible refine arm_store (o := ⟨none, _, _, _, _, _⟩) rfl _ _ _ rfl R 0 rfl (u8s dd) rfl _ _ (R_4) (fitH KD.out) (u8s_one _) (szH KD.out) ?_); intro y9 hy9 oy9 sy9))
  exact bodyPost_ret (v := .agg (u8s dd).toArray) (result_row (p := 2) (ty := 50) (u := 50) (by kernel_rfl) _ _ R (u8s dd) rfl (hy9.congr (allH KD.out)) (szH KD.out)) rfl ⟨rfl, below_only bel_4 oy9 geR bel_4.size⟩
end Go.Proofs.YtpebadhknpohkaaDoor.Tr
