/-
  The contract of package proof's Lead: to which digest a path leads. Over this seat's translation.
-/
import Derived.Test.YtaihhbiocolhcaaDoorPrfUp
namespace Go.Proofs.YtaihhbiocolhcaaDoor.Pf
open Go.ChangeShapes Go.WideShapes Go.ChangeAt Go.RowKit Go.Proofs.YtaihhbiocolhcaaDoor.Mem Go.Proofs.YtaihhbiocolhcaaDoor.Bt Go.Proofs.YtaihhbiocolhcaaDoor.Wi Go.Proofs.YtaihhbiocolhcaaDoor.Sha Go.Proofs.YtaihhbiocolhcaaDoor.Ac Go.Proofs.YtaihhbiocolhcaaDoor.Tr
open Go.Proofs.YtaihhbiocolhcaaDoor.Tg (bytesOf bytesOf_length bytesOf_lt bytesOf_inj Rd Rd.below Parts parts_one arm_one tagD tagD_len tagOf_any refTag_any total image image_inj image_length)
open Go.Proofs.YtaihhbiocolhcaaDoor.Ep (H32 zh zh_ok Has h_len szH zH fitH allH came_at one_app)
set_option linter.unusedVariables false
set_option linter.unusedSimpArgs false

/-- What Lead answers. -/
def leadI (p : Int) (L : List (List Nat)) (leaf : List Nat) : List Nat := if 0 ≤ p ∧ p < 16 then leadK p.toNat L leaf 4 else zh
theorem leadI_in {q : Nat} (h : q < 16) (L : List (List Nat)) (leaf : List Nat) : leadI (q : Int) L leaf = leadK q L leaf 4 := by
  unfold leadI
  rw [if_pos ⟨by omega, by omega⟩, Int.toNat_natCast]
theorem leadI_out {p : Int} (h : ¬ (0 ≤ p ∧ p < 16)) (L : List (List Nat)) (leaf : List Nat) : leadI p L leaf = zh := if_neg h
theorem leadI_ok {p : Int} {L : List (List Nat)} {leaf : List Nat} (h : H32 leaf) : H32 (leadI p L leaf) := by
  unfold leadI
  split
  · exact lead_ok h 4
  · exact zh_ok
theorem pathE_in {q : Nat} (h : q < 16) : pathE (q : Int) = 0 := if_pos ⟨by omega, by omega⟩
theorem pathE_out {p : Int} (h : ¬ (0 ≤ p ∧ p < 16)) : pathE p = 1 := if_neg h
structure LeadPost (w : World) (p : Int) (L : List (List Nat)) (leaf : List Nat) (e : Ending) (w' : World) : Prop where
  ret : e = .returned (.tuple #[.agg (u8s (leadI p L leaf)).toArray, .int .i64 (pathE p : Int)])
  bel : Below w.heap.size w w'
structure LdRel (w : World) (D R K S P p : Nat) (L : List (List Nat)) (leaf : List Nat) (i : Value) (wr : World) : Prop where
  ex : ∃ k : Nat, k ≤ 4 ∧ i = .int .i64 (k : Int) ∧ Row wr D 23 (u8s (leadK p L leaf k)) ∧ UpAt wr K S P p k (leadK p L leaf k)
  rr : Row wr R 23 (u8s zh)
  bel : Below w.heap.size w wr
set_option maxHeartbeats 4000000 in
set_option maxRecDepth 100000 in
theorem lead_any (p : Int) (L : List (List Nat)) (leaf : List Nat) (w : World) (h4 : P4 L) (kl : H32 leaf) (hk : w.rangeAt 1 0 (u32s ks)) :
    Calls Tryd.prog 8 #[.int .i64 p, .agg (u8s leaf).toArray, .agg (dgC L).toArray] w (LeadPost w p L leaf) := by
  have hk1 : 1 < w.heap.size := range_lt hk (by simp [u32s, ks])
  have HKW : Hid (∀ w', Below w.heap.size w w' → w'.rangeAt 1 0 (u32s ks)) := Lib.hid fun w' hb => range_block hk (hb.block _ hk1)
  have H4 := Lib.hid h4; have KF := Lib.hid kl
  have SP := Lib.hid (sz_path h4.ok h4.len)
  by_cases hin : 0 ≤ p ∧ p < 16
  · obtain ⟨q, rfl⟩ : ∃ q : Nat, p = (q : Int) := ⟨p.toNat, by omega⟩
    have hq : q < 16 := by omega
    have HQ := Lib.hid hq
    have d1 : decide ((q : Int) < 0) = false := decide_eq_false (by omega)
    have d2 : decide ((16 : Int) ≤ (q : Int)) = false := decide_eq_false (by omega)
    have HI : Hid (leadI (q : Int) L leaf = leadK q L leaf 4) := Lib.hid (leadI_in hq L leaf)
    have HE : Hid (pathE (q : Int) = 0) := Lib.hid (pathE_in hq)
    have CC := Lib.hid (fun w0 => climb_any q leaf w0 kl)
    clear hk hk1 h4 kl hin hq
    go_enter Tryd.func8, Tryd.ntmps8
    go_wp2_with (first
      | ((with_reducible refine at_slot 4 ?_); (refine arm_box (o := ⟨some 4, _, _, _, _, _⟩) rfl _ _ rfl (u8s leaf) rfl ?_); intro X v1 Xe hv1 nv1; try simp only [Act.put, List.setIfInBounds_toArray, List.set_cons_zero, List.set_cons_succ])
      | ((with_reducible refine at_slot 5 ?_); (refine arm_box (o := ⟨some 5, _, _, _, _, _⟩) rfl _ _ rfl (dgC L) rfl ?_); intro Y v2 Ye hv2 nv2; try simp only [Act.put, List.setIfInBounds_toArray, List.set_cons_zero, List.set_cons_succ])
      | ((with_reducible refine at_slot 6 ?_); (refine arm_alloc (o := ⟨some 6, _, _, _, _, _⟩) rfl _ rfl (u8s zh) zH ?_); intro R v3 Re hv3 nv3; try simp only [Act.put, List.setIfInBounds_toArray, List.set_cons_zero, List.set_cons_succ])
      | ((with_reducible refine at_slot 19 ?_); (refine pause ?_); try simp only [Act.put, List.setIfInBounds_toArray, List.set_cons_zero, List.set_cons_succ]))
    have hbv1 := nv1.below
    have rrv1 : Row v1 X 23 (u8s leaf) := hv1
    have hbv2 := nv2.below
    have rrv2 : Row v2 Y 29 (dgC L) := hv2
    have hbv3 := nv3.below
    have rrv3 : Row v3 R 23 (u8s zh) := hv3
    have geX : w.heap.size ≤ X := by have := Xe.out; omega
    clear hv1 nv1 Xe
    have bel_4 : Below w.heap.size w v1 := hbv1
    clear hbv1
    have geY : w.heap.size ≤ Y := by have := Ye.out; have := bel_4.size; omega
    have ltXY : X < Y := by have := Ye.out; have := rrv1.lt; omega
    clear hv2 nv2 Ye
    have X_5 : Row v2 X 23 (u8s leaf) := rrv1.old hbv2
    have bel_5 : Below w.heap.size w v2 := below_step bel_4 bel_4.size hbv2
    clear rrv1 bel_4 hbv2
    have geR : w.heap.size ≤ R := by have := Re.out; have := bel_5.size; omega
    have ltYR : Y < R := by have := Re.out; have := rrv2.lt; omega
    clear hv3 nv3 Re
    have X_6 : Row v3 X 23 (u8s leaf) := X_5.old hbv3
    have Y_6 : Row v3 Y 29 (dgC L) := rrv2.old hbv3
    have bel_6 : Below w.heap.size w v3 := below_step bel_5 bel_5.size hbv3
    clear X_5 rrv2 bel_5 hbv3
    refine go_on ?_
    go_wp2_with (first
      | ((with_reducible refine at_slot 19 ?_); (refine arm_load (o := ⟨some 19, _, _, _, _, _⟩) rfl _ _ rfl X 0 rfl (u8s leaf) ((Has.refl _).range X_6) (szH KF.out) ?_); try simp only [Act.put, List.setIfInBounds_toArray, List.set_cons_zero, List.set_cons_succ])
      | ((with_reducible refine at_slot 8 ?_); (refine arm_alloc (o := ⟨some 8, _, _, _, _, _⟩) rfl _ rfl (u8s zh) zH ?_); intro D v7a De hDa nD; try simp only [Act.put, List.setIfInBounds_toArray, List.set_cons_zero, List.set_cons_succ])
      | ((with_reducible refine arm_store (o := ⟨none, _, _, _, _, _⟩) rfl _ _ _ rfl D 0 rfl (u8s leaf) rfl _ _ hDa (fitH KF.out) (u8s_one _) (szH KF.out) ?_); intro v7 hDb oD sD; try simp only [Act.put, List.setIfInBounds_toArray, List.set_cons_zero, List.set_cons_succ])
      | ((with_reducible refine at_slot 21 ?_); (refine arm_load (o := ⟨some 21, _, _, _, _, _⟩) rfl _ _ rfl X 0 rfl (u8s leaf) ((Has.refl _).range ((X_6.old nD.below).only oD (by have := De.out; have := X_6.lt; omega))) (szH KF.out) ?_); try simp only [Act.put, List.setIfInBounds_toArray, List.set_cons_zero, List.set_cons_succ]))
    have lD : v3.heap.size ≤ D := by have := De.out; omega
    have bD : Below v3.heap.size v3 v7 := below_only nD.below oD lD nD.below.size
    have rrD : Row v7 D 23 (u8s leaf) := hDb.congr (allH KF.out)
    have geD : w.heap.size ≤ D := Nat.le_trans bel_6.size lD
    have neRD : R ≠ D := by have := rrv3.lt; omega
    clear hDa hDb nD oD sD De lD
    have X_8 : Row v7 X 23 (u8s leaf) := X_6.old bD
    have Y_8 : Row v7 Y 29 (dgC L) := Y_6.old bD
    have R_8 : Row v7 R 23 (u8s zh) := rrv3.old bD
    have bel_8 : Below w.heap.size w v7 := below_step bel_6 bel_6.size bD
    clear X_6 Y_6 rrv3 bel_6 bD
    have szD := rrD.lt; have szR := R_8.lt; have szB := bel_8.size
    refine (CC.out _).mono ?_
    rintro e y9 ⟨⟨K, S, P, rfl, hU, geP⟩, hB⟩
    have X_10 : Row y9 X 23 (u8s leaf) := X_8.old hB
    have Y_10 : Row y9 Y 29 (dgC L) := Y_8.old hB
    have R_10 : Row y9 R 23 (u8s zh) := R_8.old hB
    have D_10 : Row y9 D 23 (u8s leaf) := rrD.old hB
    have bel_10 : Below w.heap.size w y9 := below_step bel_8 bel_8.size hB
    clear X_8 Y_8 R_8 rrD bel_8 hB
    have hPS := hU.ps; have hSK := hU.sh
    have gK : w.heap.size ≤ K := by omega
    have gS : w.heap.size ≤ S := by omega
    have gP : w.heap.size ≤ P := by omega
    have dP : D < P := by omega
    have dR : R < P := by omega
    go_wp2_with (first
      | ((with_reducible refine at_slot 23 ?_); (refine arm_load (o := ⟨some 23, _, _, _, _, _⟩) rfl _ _ rfl Y 0 rfl (dgC L) ((Has.refl _).range Y_10) SP.out ?_); try simp only [Act.put, List.setIfInBounds_toArray, List.set_cons_zero, List.set_cons_succ]))
    try simp only [Act.put]
    have h0 : LdRel w D R K S P q L leaf (.int .i64 0) y9 := ⟨⟨0, by omega, rfl, D_10, hU⟩, R_10, bel_10⟩
    clear D_10 R_10 X_10 Y_10 bel_10 CC hU
    go_loopw [24] (fun i wr => LdRel w D R K S P q L leaf i wr) (fun i _ => 4 - (intOf i).toNat)
    case atStart => exact h0
    case round =>
      clear h0
      obtain ⟨⟨k, hk, rfl, hD, hU⟩, hR, bel⟩ := hrel
      by_cases hlt : k < 4
      · have ik : (k : Int) < 4 := by omega
        have HLT := Lib.hid hlt
        have KD := Lib.hid (lead_ok (p := q) (L := L) KF.out k); have KN := Lib.hid (lead_ok (p := q) (L := L) KF.out (k + 1)); have KB := Lib.hid (H4.out.at hlt)
        have HNX := Lib.hid (nxt_lead q k L leaf)
        have CU : Hid (∀ w0, UpAt w0 K S P q k (leadK q L leaf k) → w0.rangeAt 1 0 (u32s ks) → Calls Tryd.prog 47 #[.agg (u8s (L.getD k [])).toArray, .pointer (some ⟨K, 0, none⟩), .pointer (some ⟨S, 0, none⟩), .pointer (some ⟨P, 0, none⟩)] w0 (UpPost w0 K S P q k (leadK q L leaf k) (L.getD k []))) := Lib.hid fun w0 h0 h1 => up_any K S P q k _ _ w0 HQ.out HLT.out KD.out KB.out h0 h1
        have KL := Lib.hid (lft_ok (p := q) (k := k) KD.out KB.out); have KR := Lib.hid (rgt_ok (p := q) (k := k) KD.out KB.out)
        go_wp2_with (first
          | ((with_reducible refine at_slot 26 ?_); (refine arm_want (.agg (u8s (L.getD k [])).toArray) 26 rfl (by kernel_rfl) (run_op_indexP H4.out _ _ rfl rfl k rfl HLT.out _) ?_); try simp only [Act.put, List.setIfInBounds_toArray, List.set_cons_zero, List.set_cons_succ])
          | ((with_reducible refine at_slot 11 ?_); (refine arm_alloc (o := ⟨some 11, _, _, _, _, _⟩) rfl _ rfl (u8s zh) zH ?_); intro G v101a Ge hGa nG; try simp only [Act.put, List.setIfInBounds_toArray, List.set_cons_zero, List.set_cons_succ])
          | ((with_reducible refine arm_store (o := ⟨none, _, _, _, _, _⟩) rfl _ _ _ rfl G 0 rfl (u8s (L.getD k [])) rfl _ _ hGa (fitH KB.out) (u8s_one _) (szH KB.out) ?_); intro v101 hGb oG sG; try simp only [Act.put, List.setIfInBounds_toArray, List.set_cons_zero, List.set_cons_succ])
          | ((with_reducible refine at_slot 28 ?_); (refine arm_load (o := ⟨some 28, _, _, _, _, _⟩) rfl _ _ rfl G 0 rfl (u8s (L.getD k [])) ((Has.refl _).range (hGb.congr (allH KB.out))) (szH KB.out) ?_); try simp only [Act.put, List.setIfInBounds_toArray, List.set_cons_zero, List.set_cons_succ])
          | ((with_reducible refine at_slot 29 ?_); (refine pause ?_); try simp only [Act.put, List.setIfInBounds_toArray, List.set_cons_zero, List.set_cons_succ]))
        have lG : wr.heap.size ≤ G := by have := Ge.out; omega
        have bG : Below wr.heap.size wr v101 := below_only nG.below oG lG nG.below.size
        have rrG : Row v101 G 23 (u8s (L.getD k [])) := hGb.congr (allH KB.out)
        have geG : w.heap.size ≤ G := Nat.le_trans bel.size lG
        have neDG : D ≠ G := by have := hD.lt; omega
        have neRG : R ≠ G := by have := hR.lt; omega
        clear hGa hGb nG oG sG Ge lG
        have D_102 : Row v101 D 23 (u8s (leadK q L leaf k)) := hD.old bG
        have R_102 : Row v101 R 23 (u8s zh) := hR.old bG
        have U_102 : UpAt v101 K S P q (k) (leadK q L leaf k) := hU.old bG
        have bel_102 : Below w.heap.size w v101 := below_step bel bel.size bG
        clear hD hR hU bel bG
        refine go_on ?_
        have kU := U_102.lt; have kG := rrG.lt
        clear rrG
        refine arm_callV (o := ⟨some 29, _, _, _, _, _⟩) rfl 29 rfl 47 _ _ _ rfl _ rfl #[.agg (u8s (L.getD k [])).toArray] (by simp only [List.map_toArray, List.map_cons, List.map_nil]; rfl) Tryd.func47 (by kernel_rfl) (by kernel_rfl) (CU.out _ U_102 (HKW.out _ bel_102)) ?_
        rintro e y7 ⟨rfl, hU2, hT⟩
        refine ⟨_, rfl, ?_⟩
        simp only [Act.put, List.setIfInBounds_toArray, List.set_cons_zero, List.set_cons_succ]
        rw [HNX.out] at hU2
        have D_103 : Row y7 D 23 (u8s (leadK q L leaf k)) := D_102.two hT (by omega) (by omega)
        have R_103 : Row y7 R 23 (u8s zh) := R_102.two hT (by omega) (by omega)
        have U_103 : UpAt y7 K S P q (k + 1) (leadK q L leaf (k + 1)) := hU2
        have bel_103 : Below w.heap.size w y7 := Below.two_ bel_102 hT gK gS bel_102.size
        clear D_102 R_102 U_102 bel_102 hT
        clear hU2
        go_wp2_with (first
          | ((with_reducible refine at_slot 30 ?_); (refine arm_want (.agg (u8s (nxt q k (leadK q L leaf k) (L.getD k []))).toArray) 30 rfl (by kernel_rfl) (run_op_fieldD KL.out KR.out (nxt_ok _ _ _ _) _ rfl rfl _) ?_); try simp only [Act.put, List.setIfInBounds_toArray, List.set_cons_zero, List.set_cons_succ])
          | ((with_reducible refine arm_store (o := ⟨none, _, _, _, _, _⟩) rfl _ _ _ rfl D 0 rfl (u8s (nxt q k (leadK q L leaf k) (L.getD k []))) rfl _ _ (D_103) (by rw [h_len (nxt_ok _ _ _ _), h_len KD.out]; omega) (u8s_one _) (szH (nxt_ok _ _ _ _)) ?_); intro y9 hy9 oy9 sy9; try simp only [Act.put, List.setIfInBounds_toArray, List.set_cons_zero, List.set_cons_succ]))
        try simp only [Act.put]
        go_roundw
        case rel => exact ⟨⟨k + 1, by omega, by go_num, HNX.out ▸ hy9.congr (lay_all _ _ (by rw [h_len (nxt_ok _ _ _ _), h_len KD.out])), U_103.only oy9 (Or.inl dP)⟩, R_103.only oy9 neRD, below_only bel_103 oy9 geD bel_103.size⟩
        case measure => simp [intOf]; omega
      · obtain rfl : k = 4 := by omega
        have KE := Lib.hid (lead_ok (p := q) (L := L) KF.out 4)
        generalize leadK q L leaf 4 = dd at hD KE HI
        go_wp2_with (first
          | ((with_reducible refine at_slot 32 ?_); (refine arm_load (o := ⟨some 32, _, _, _, _, _⟩) rfl _ _ rfl D 0 rfl (u8s dd) ((Has.refl _).range hD) (szH KE.out) ?_); try simp only [Act.put, List.setIfInBounds_toArray, List.set_cons_zero, List.set_cons_succ])
          | ((with_reducible refine arm_store (o := ⟨none, _, _, _, _, _⟩) rfl _ _ _ rfl R 0 rfl (u8s dd) rfl _ _ (hR) (fitH KE.out) (u8s_one _) (szH KE.out) ?_); intro y9 hy9 oy9 sy9; try simp only [Act.put, List.setIfInBounds_toArray, List.set_cons_zero, List.set_cons_succ]))
        exact bodyPost_ret (result_row2 (p := 6) (u := 7) (ty := 23) (t := 23) (by kernel_rfl) _ _ R (u8s dd) (.int .i64 0) rfl rfl (hy9.congr (allH KE.out)) (szH KE.out)) rfl ⟨by rw [HI.out, HE.out]; rfl, below_only bel oy9 geR bel.size⟩
  · have HI : Hid (leadI p L leaf = zh) := Lib.hid (leadI_out hin L leaf)
    have HE : Hid (pathE p = 1) := Lib.hid (pathE_out hin)
    by_cases hn : p < 0
    · have d1 : decide (p < (0 : Int)) = true := decide_eq_true hn
      clear hk hk1 h4 kl hin hn
      go_enter Tryd.func8, Tryd.ntmps8
      go_wp2_with (first
        | ((with_reducible refine at_slot 4 ?_); (refine arm_box (o := ⟨some 4, _, _, _, _, _⟩) rfl _ _ rfl (u8s leaf) rfl ?_); intro X v1 Xe hv1 nv1; try simp only [Act.put, List.setIfInBounds_toArray, List.set_cons_zero, List.set_cons_succ])
        | ((with_reducible refine at_slot 5 ?_); (refine arm_box (o := ⟨some 5, _, _, _, _, _⟩) rfl _ _ rfl (dgC L) rfl ?_); intro Y v2 Ye hv2 nv2; try simp only [Act.put, List.setIfInBounds_toArray, List.set_cons_zero, List.set_cons_succ])
        | ((with_reducible refine at_slot 6 ?_); (refine arm_alloc (o := ⟨some 6, _, _, _, _, _⟩) rfl _ rfl (u8s zh) zH ?_); intro R v3 Re hv3 nv3; try simp only [Act.put, List.setIfInBounds_toArray, List.set_cons_zero, List.set_cons_succ])
        | ((with_reducible refine at_slot 18 ?_); (refine arm_build (o := ⟨some 18, _, _, _, _, _⟩) rfl _ _ rfl (u8s zh) (by kernel_rfl) ?_); try simp only [Act.put, List.setIfInBounds_toArray, List.set_cons_zero, List.set_cons_succ])
        | ((with_reducible refine arm_store (o := ⟨none, _, _, _, _, _⟩) rfl _ _ _ rfl R 0 rfl (u8s zh) rfl _ _ (hv3) (fitH zh_ok) (u8s_one _) (szH zh_ok) ?_); intro y9 hy9 oy9 sy9; try simp only [Act.put, List.setIfInBounds_toArray, List.set_cons_zero, List.set_cons_succ]))
      have hbv1 := nv1.below
      have rrv1 : Row v1 X 23 (u8s leaf) := hv1
      have hbv2 := nv2.below
      have rrv2 : Row v2 Y 29 (dgC L) := hv2
      have hbv3 := nv3.below
      have rrv3 : Row v3 R 23 (u8s zh) := hv3
      have geX : w.heap.size ≤ X := by have := Xe.out; omega
      clear hv1 nv1 Xe
      have bel_4 : Below w.heap.size w v1 := hbv1
      clear hbv1
      have geY : w.heap.size ≤ Y := by have := Ye.out; have := bel_4.size; omega
      have ltXY : X < Y := by have := Ye.out; have := rrv1.lt; omega
      clear hv2 nv2 Ye
      have X_5 : Row v2 X 23 (u8s leaf) := rrv1.old hbv2
      have bel_5 : Below w.heap.size w v2 := below_step bel_4 bel_4.size hbv2
      clear rrv1 bel_4 hbv2
      have geR : w.heap.size ≤ R := by have := Re.out; have := bel_5.size; omega
      have ltYR : Y < R := by have := Re.out; have := rrv2.lt; omega
      clear hv3 nv3 Re
      have X_6 : Row v3 X 23 (u8s leaf) := X_5.old hbv3
      have Y_6 : Row v3 Y 29 (dgC L) := rrv2.old hbv3
      have bel_6 : Below w.heap.size w v3 := below_step bel_5 bel_5.size hbv3
      clear X_5 rrv2 bel_5 hbv3
      exact bodyPost_ret (result_row2 (p := 6) (u := 7) (ty := 23) (t := 23) (by kernel_rfl) _ _ R (u8s zh) (.int .i64 1) rfl rfl (hy9.congr (allH zh_ok)) (szH zh_ok)) rfl ⟨by rw [HI.out, HE.out]; rfl, below_only bel_6 oy9 geR bel_6.size⟩
    · have d1 : decide (p < (0 : Int)) = false := decide_eq_false hn
      have d2 : decide ((16 : Int) ≤ p) = true := decide_eq_true (by omega)
      clear hk hk1 h4 kl hin hn
      go_enter Tryd.func8, Tryd.ntmps8
      go_wp2_with (first
        | ((with_reducible refine at_slot 4 ?_); (refine arm_box (o := ⟨some 4, _, _, _, _, _⟩) rfl _ _ rfl (u8s leaf) rfl ?_); intro X v1 Xe hv1 nv1; try simp only [Act.put, List.setIfInBounds_toArray, List.set_cons_zero, List.set_cons_succ])
        | ((with_reducible refine at_slot 5 ?_); (refine arm_box (o := ⟨some 5, _, _, _, _, _⟩) rfl _ _ rfl (dgC L) rfl ?_); intro Y v2 Ye hv2 nv2; try simp only [Act.put, List.setIfInBounds_toArray, List.set_cons_zero, List.set_cons_succ])
        | ((with_reducible refine at_slot 6 ?_); (refine arm_alloc (o := ⟨some 6, _, _, _, _, _⟩) rfl _ rfl (u8s zh) zH ?_); intro R v3 Re hv3 nv3; try simp only [Act.put, List.setIfInBounds_toArray, List.set_cons_zero, List.set_cons_succ])
        | ((with_reducible refine at_slot 18 ?_); (refine arm_build (o := ⟨some 18, _, _, _, _, _⟩) rfl _ _ rfl (u8s zh) (by kernel_rfl) ?_); try simp only [Act.put, List.setIfInBounds_toArray, List.set_cons_zero, List.set_cons_succ])
        | ((with_reducible refine arm_store (o := ⟨none, _, _, _, _, _⟩) rfl _ _ _ rfl R 0 rfl (u8s zh) rfl _ _ (hv3) (fitH zh_ok) (u8s_one _) (szH zh_ok) ?_); intro y9 hy9 oy9 sy9; try simp only [Act.put, List.setIfInBounds_toArray, List.set_cons_zero, List.set_cons_succ]))
      have hbv1 := nv1.below
      have rrv1 : Row v1 X 23 (u8s leaf) := hv1
      have hbv2 := nv2.below
      have rrv2 : Row v2 Y 29 (dgC L) := hv2
      have hbv3 := nv3.below
      have rrv3 : Row v3 R 23 (u8s zh) := hv3
      have geX : w.heap.size ≤ X := by have := Xe.out; omega
      clear hv1 nv1 Xe
      have bel_4 : Below w.heap.size w v1 := hbv1
      clear hbv1
      have geY : w.heap.size ≤ Y := by have := Ye.out; have := bel_4.size; omega
      have ltXY : X < Y := by have := Ye.out; have := rrv1.lt; omega
      clear hv2 nv2 Ye
      have X_5 : Row v2 X 23 (u8s leaf) := rrv1.old hbv2
      have bel_5 : Below w.heap.size w v2 := below_step bel_4 bel_4.size hbv2
      clear rrv1 bel_4 hbv2
      have geR : w.heap.size ≤ R := by have := Re.out; have := bel_5.size; omega
      have ltYR : Y < R := by have := Re.out; have := rrv2.lt; omega
      clear hv3 nv3 Re
      have X_6 : Row v3 X 23 (u8s leaf) := X_5.old hbv3
      have Y_6 : Row v3 Y 29 (dgC L) := rrv2.old hbv3
      have bel_6 : Below w.heap.size w v3 := below_step bel_5 bel_5.size hbv3
      clear X_5 rrv2 bel_5 hbv3
      exact bodyPost_ret (result_row2 (p := 6) (u := 7) (ty := 23) (t := 23) (by kernel_rfl) _ _ R (u8s zh) (.int .i64 1) rfl rfl (hy9.congr (allH zh_ok)) (szH zh_ok)) rfl ⟨by rw [HI.out, HE.out]; rfl, below_only bel_6 oy9 geR bel_6.size⟩
end Go.Proofs.YtaihhbiocolhcaaDoor.Pf
