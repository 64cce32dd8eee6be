/-
  The contracts of package window's leaves: Genesis, Right, and what tells of a block that was put. Over this seat's translation.
-/
import Derived.Test.YtbbmjjphkmjnbaaWinMem
import Derived.Test.YtbbmjjphkmjnbaaLater
namespace Go.Proofs.Ytbbmjjphkmjnbaa.Wn
open Go.ChangeShapes Go.WideShapes Go.ChangeAt Go.RowKit Go.Proofs.Ytbbmjjphkmjnbaa.Mem Go.Proofs.Ytbbmjjphkmjnbaa.Bt Go.Proofs.Ytbbmjjphkmjnbaa.Rg
set_option linter.unusedVariables false
set_option linter.unusedSimpArgs false

theorem wgenesis_any (w : World) : Calls Try.prog 10 #[] w fun e w' => e = .returned (.agg (wcs 12 0 [1, 3, 3, 3]).toArray) ∧ Below w.heap.size w w' := by
  go_enter Try.func10, Try.ntmps10
  go_wp2_with (first
    | ((with_reducible refine at_slot 0 ?_); (refine arm_alloc (o := ⟨some 0, _, _, _, _, _⟩) rfl _ rfl (wcs 0 0 [0, 0, 0, 0]) z_win ?_); intro R wa Re hwa nwa))
  refine (Rg.genesis_any _).mono ?_
  rintro e wb ⟨rfl, hB⟩
  have rR := hwa.old hB
  go_wp2_with (first
    | ((with_reducible refine at_slot 2 ?_); (refine arm_build (o := ⟨some 2, _, _, _, _, _⟩) rfl _ _ rfl (wcs 12 0 [1, 3, 3, 3]) (by kernel_rfl) ?_))
    | ((with_reducible refine arm_store (o := ⟨none, _, _, _, _, _⟩) rfl _ _ _ rfl R 0 rfl (wcs 12 0 [1, 3, 3, 3]) rfl _ _ (rR) (by rw [wcs_len rfl, wz_len]; omega) (wcs_one _ _ _) (sz_win rfl) ?_); intro wc hwc owc swc))
  have eR := Re.out; have sR := nwa.size; have tR := hB.size
  refine bodyPost_ret (v := .agg (wcs 12 0 [1, 3, 3, 3]).toArray) (result_row (p := 0) (ty := 27) (u := 27) (by kernel_rfl) _ wc R _ rfl (hwc.congr (lay_all _ _ (by rw [wcs_len rfl, wz_len]))) (sz_win rfl)) rfl ⟨rfl, below_only (below_step nwa.below (by omega) hB) owc (by omega) (by omega)⟩
theorem rwgenesis_any (w : World) : Calls Try.prog 11 #[] w fun e w' => e = .returned (.agg (wcs 12 0 [1, 3, 3, 3]).toArray) ∧ Below w.heap.size w w' := by
  go_enter Try.func11, Try.ntmps11
  go_wp2_with (first
    | ((with_reducible refine at_slot 0 ?_); (refine arm_alloc (o := ⟨some 0, _, _, _, _, _⟩) rfl _ rfl (wcs 0 0 [0, 0, 0, 0]) z_rwin ?_); intro R wa Re hwa nwa))
  refine (Rg.rgenesis_any _).mono ?_
  rintro e wb ⟨rfl, hB⟩
  have rR := hwa.old hB
  go_wp2_with (first
    | ((with_reducible refine at_slot 2 ?_); (refine arm_build (o := ⟨some 2, _, _, _, _, _⟩) rfl _ _ rfl (wcs 12 0 [1, 3, 3, 3]) (by kernel_rfl) ?_))
    | ((with_reducible refine arm_store (o := ⟨none, _, _, _, _, _⟩) rfl _ _ _ rfl R 0 rfl (wcs 12 0 [1, 3, 3, 3]) rfl _ _ (rR) (by rw [wcs_len rfl, wz_len]; omega) (wcs_one _ _ _) (sz_rwin rfl) ?_); intro wc hwc owc swc))
  have eR := Re.out; have sR := nwa.size; have tR := hB.size
  refine bodyPost_ret (v := .agg (wcs 12 0 [1, 3, 3, 3]).toArray) (result_row (p := 0) (ty := 33) (u := 33) (by kernel_rfl) _ wc R _ rfl (hwc.congr (lay_all _ _ (by rw [wcs_len rfl, wz_len]))) (sz_rwin rfl)) rfl ⟨rfl, below_only (below_step nwa.below (by omega) hB) owc (by omega) (by omega)⟩
theorem wright_any (M L : Nat) (cs : List Nat) (w : World) (hM : M < 4294967296) (hL : L < 4294967296) (hc : AllLt 4294967296 cs) (hl : cs.length = 4) :
    Calls Try.prog 7 #[.agg (wcs M L cs).toArray] w fun e w' => e = .returned (.bool (decide (WRt M L cs))) ∧ Below w.heap.size w w' := by
  have HL := Lib.hid hl; clear hl
  have HC := Lib.hid hc; clear hc
  obtain ⟨v, hv⟩ : ∃ v : Bool, v = decide (WRt M L cs) := ⟨_, rfl⟩
  rw [← hv]
  by_cases hm : M ≤ 12
  · have hd : decide ((M : Int) ≤ 12) = true := decide_eq_true (by omega)
    have hq : decide (Rt L cs) = v := by rw [hv]; exact decide_eq_decide.2 ⟨fun h => ⟨hm, h⟩, fun h => h.2⟩
    have HQ := Lib.hid hq
    clear hv hq
    go_enter Try.func7, Try.ntmps7
    go_wp2_with (first
      | ((with_reducible refine at_slot 1 ?_); (refine arm_box (o := ⟨some 1, _, _, _, _, _⟩) rfl _ _ rfl (wcs M L cs) rfl ?_); intro B wa Be hwa nwa; have cB := hwa.cell (wcs_get0 M L cs))
      | ((with_reducible refine at_slot 8 ?_); (refine arm_want ((.agg (rcs L cs).toArray)) 8 rfl (by kernel_rfl) (run_op_load _ _ rfl B 1 rfl (rcs L cs) (row_ring hwa) (sz_ring' HL.out)) ?_)))
    refine (Rg.right_any L cs _ hL HC.out HL.out).mono ?_
    rw [HQ.out]
    rintro e wb ⟨rfl, hB⟩
    go_wp2_with fail
    go_ret
    exact ⟨rfl, below_step nwa.below nwa.below.size hB⟩
  · have hd : decide ((M : Int) ≤ 12) = false := decide_eq_false (by omega)
    obtain rfl : v = false := by rw [hv]; exact decide_eq_false (fun h => hm h.1)
    clear hv
    go_enter Try.func7, Try.ntmps7
    go_wp2_with (first
      | ((with_reducible refine at_slot 1 ?_); (refine arm_box (o := ⟨some 1, _, _, _, _, _⟩) rfl _ _ rfl (wcs M L cs) rfl ?_); intro B wa Be hwa nwa; have cB := hwa.cell (wcs_get0 M L cs)))
    go_ret
    exact ⟨rfl, nwa.below⟩
theorem rwright_any (M L : Nat) (cs : List Nat) (w : World) (hM : M < 4294967296) (hL : L < 4294967296) (hl : cs.length = 4) :
    Calls Try.prog 8 #[.agg (wcs M L cs).toArray] w fun e w' => e = .returned (.bool (decide (WRt M L cs))) ∧ Below w.heap.size w w' := by
  have HL := Lib.hid hl; clear hl
  obtain ⟨v, hv⟩ : ∃ v : Bool, v = decide (WRt M L cs) := ⟨_, rfl⟩
  rw [← hv]
  by_cases hm : M ≤ 12
  · have hd : decide ((M : Int) ≤ 12) = true := decide_eq_true (by omega)
    have hq : decide (Rt L cs) = v := by rw [hv]; exact decide_eq_decide.2 ⟨fun h => ⟨hm, h⟩, fun h => h.2⟩
    have HQ := Lib.hid hq
    clear hv hq
    go_enter Try.func8, Try.ntmps8
    go_wp2_with (first
      | ((with_reducible refine at_slot 1 ?_); (refine arm_box (o := ⟨some 1, _, _, _, _, _⟩) rfl _ _ rfl (wcs M L cs) rfl ?_); intro B wa Be hwa nwa; have cB := hwa.cell (wcs_get0 M L cs))
      | ((with_reducible refine at_slot 8 ?_); (refine arm_want ((.agg (rcs L cs).toArray)) 8 rfl (by kernel_rfl) (run_op_load _ _ rfl B 1 rfl (rcs L cs) (row_ring hwa) (sz_rref' HL.out)) ?_)))
    refine (Rg.rright_any L cs _ hL HL.out).mono ?_
    rw [HQ.out]
    rintro e wb ⟨rfl, hB⟩
    go_wp2_with fail
    go_ret
    exact ⟨rfl, below_step nwa.below nwa.below.size hB⟩
  · have hd : decide ((M : Int) ≤ 12) = false := decide_eq_false (by omega)
    obtain rfl : v = false := by rw [hv]; exact decide_eq_false (fun h => hm h.1)
    clear hv
    go_enter Try.func8, Try.ntmps8
    go_wp2_with (first
      | ((with_reducible refine at_slot 1 ?_); (refine arm_box (o := ⟨some 1, _, _, _, _, _⟩) rfl _ _ rfl (wcs M L cs) rfl ?_); intro B wa Be hwa nwa; have cB := hwa.cell (wcs_get0 M L cs)))
    go_ret
    exact ⟨rfl, nwa.below⟩
theorem own_any (M L : Nat) (cs : List Nat) (w : World) (hl : cs.length = 4) :
    Calls Try.prog 9 #[.agg (wcs M L cs).toArray] w fun e w' => e = .returned (.agg (wcs M L cs).toArray) ∧ Below w.heap.size w w' := by
  have HL := Lib.hid hl; clear hl
  go_enter Try.func9, Try.ntmps9
  go_wp2_with (first
    | ((with_reducible refine at_slot 1 ?_); (refine arm_box (o := ⟨some 1, _, _, _, _, _⟩) rfl _ _ rfl (wcs M L cs) rfl ?_); intro B wa Be hwa nwa)
    | ((with_reducible refine at_slot 2 ?_); (refine arm_alloc (o := ⟨some 2, _, _, _, _, _⟩) rfl _ rfl (wcs 0 0 [0, 0, 0, 0]) z_rwin ?_); intro R wb Re hwb nwb; have cB := (hwa.old nwb.below).cell (wcs_get0 M L cs))
    | ((with_reducible refine at_slot 6 ?_); (refine arm_load (o := ⟨some 6, _, _, _, _, _⟩) rfl _ _ rfl B 1 rfl (rcs L cs) (row_ring (hwa.old nwb.below)) (sz_ring' HL.out) ?_))
    | ((with_reducible refine at_slot 7 ?_); (refine arm_build (o := ⟨some 7, _, _, _, _, _⟩) rfl _ _ rfl (wcs M L cs) (by simp only [List.map_toArray, List.map_cons, List.map_nil]; exact built_rwin M L cs HL.out) ?_))
    | ((with_reducible refine arm_store (o := ⟨none, _, _, _, _, _⟩) rfl _ _ _ rfl R 0 rfl (wcs M L cs) rfl _ _ (hwb) (by rw [wcs_len HL.out, wz_len]; omega) (wcs_one _ _ _) (sz_rwin HL.out) ?_); intro wc hwc owc swc))
  have eR := Re.out; have sA := nwa.size; have sB := nwb.size
  refine bodyPost_ret (v := .agg (wcs M L cs).toArray) (result_row (p := 2) (ty := 33) (u := 33) (by kernel_rfl) _ wc R _ rfl (hwc.congr (lay_all _ _ (by rw [wcs_len HL.out, wz_len]))) (sz_rwin HL.out)) rfl ⟨rfl, below_only (below_step nwa.below (by omega) nwb.below) owc (by omega) (by omega)⟩
set_option maxHeartbeats 2000000 in
set_option maxRecDepth 100000 in
theorem alone_any (P L s : Nat) (cs : List Nat) (w : World) (hr : Row w P 57 (pcs L cs s)) (hL : L < 4294967296) (hl : cs.length = 4) :
    Calls Try.prog 32 #[.pointer (some ⟨P, 0, none⟩)] w fun e w' => e = .returned (.bool (decide (cs.getD (L % 4) 0 = 1))) ∧ Below w.heap.size w w' := by
  have HL := Lib.hid hl; clear hl
  have hj : L % 4 < 4 := by omega
  have hxg := pcs_get (L := L) (s := s) (cs := cs) (i := L % 4) (by rw [HL.out]; exact hj)
  obtain ⟨v, hv⟩ : ∃ v : Bool, v = decide (cs.getD (L % 4) 0 = 1) := ⟨_, rfl⟩
  rw [← hv]
  have C := ringB_any L
  generalize L % 4 = j at hj hxg hv C
  generalize cs.getD j 0 = x at hxg hv
  have HV : Hid (((x : Int) == 1) = v) := by
    rw [hv]
    by_cases h : x = 1
    · rw [h]; rfl
    · rw [decide_eq_false h]; exact beq_eq_false_iff_ne.2 (by omega)
  have HX := Lib.hid hxg
  clear hv hxg
  go_enter Try.func32, Try.ntmps32
  go_wp2_with fail
  refine wp_region_held (S := fun w' => Below w.drew.heap.size w.drew w') (by kernel_rfl) ?_
  change wpAnyH _ _ _ _ _ _ _ _ w.drew
  have rz : Row w.drew P 57 (pcs L cs s) := hr
  have belz : Below w.heap.size w w.drew := (Below.refl _ _).drew
  generalize w.drew = wz at rz belz ⊢
  clear hr
  have hS : Below wz.heap.size wz wz := Below.refl _ _
  refine h_take 0 (.pointer (some ⟨P, 0, none⟩)) rfl 3 rfl (by kernel_rfl) (by kernel_rfl) (by kernel_rfl) (by kernel_rfl) (fun _ _ _ h => h) (fun w' _ => by kernel_rfl) hS ?_
  simp only [Act.put, List.setIfInBounds_toArray, List.set_cons_zero, List.set_cons_succ]
  refine h_take 1 (.pointer (some ⟨P, 0, none⟩)) rfl 4 rfl (by kernel_rfl) (by kernel_rfl) (by kernel_rfl) (by kernel_rfl) (fun _ _ _ h => h) (fun w' _ => by kernel_rfl) hS ?_
  simp only [Act.put, List.setIfInBounds_toArray, List.set_cons_zero, List.set_cons_succ]
  refine h_take 2 (.pointer (some ⟨P, 0, none⟩)) rfl 5 rfl (by kernel_rfl) (by kernel_rfl) (by kernel_rfl) (by kernel_rfl) (fun _ _ _ h => h) (fun w' _ => by kernel_rfl) hS ?_
  simp only [Act.put, List.setIfInBounds_toArray, List.set_cons_zero, List.set_cons_succ]
  refine h_take 3 (.pointer (some ⟨P, 0, none⟩)) rfl 6 rfl (by kernel_rfl) (by kernel_rfl) (by kernel_rfl) (by kernel_rfl) (fun _ _ _ h => h) (fun w' _ => by kernel_rfl) hS ?_
  simp only [Act.put, List.setIfInBounds_toArray, List.set_cons_zero, List.set_cons_succ]
  refine h_take 4 (.pointer (some ⟨P, 0, none⟩)) rfl 7 rfl (by kernel_rfl) (by kernel_rfl) (by kernel_rfl) (by kernel_rfl) (fun _ _ _ h => h) (fun w' _ => by kernel_rfl) hS ?_
  simp only [Act.put, List.setIfInBounds_toArray, List.set_cons_zero, List.set_cons_succ]
  refine h_take 5 (.int .u32 (L : Int)) rfl 8 rfl (by kernel_rfl) (by kernel_rfl) (by kernel_rfl) (by kernel_rfl) (fun _ _ _ h => h) (fun w' hC => run_op_load32 _ rfl _ rfl _ ((rz.old hC).cell (pcs_get0 L s cs))) hS ?_
  simp only [Act.put, List.setIfInBounds_toArray, List.set_cons_zero, List.set_cons_succ]
  refine h_take 7 (.pointer (some ⟨P, 0, none⟩)) rfl 10 rfl (by kernel_rfl) (by kernel_rfl) (by kernel_rfl) (by kernel_rfl) (fun _ _ _ h => h) (fun w' _ => by kernel_rfl) hS ?_
  simp only [Act.put, List.setIfInBounds_toArray, List.set_cons_zero, List.set_cons_succ]
  refine h_take 8 (.pointer (some ⟨P, 0, none⟩)) rfl 11 rfl (by kernel_rfl) (by kernel_rfl) (by kernel_rfl) (by kernel_rfl) (fun _ _ _ h => h) (fun w' _ => by kernel_rfl) hS ?_
  simp only [Act.put, List.setIfInBounds_toArray, List.set_cons_zero, List.set_cons_succ]
  refine h_take 9 (.pointer (some ⟨P, 1, none⟩)) rfl 12 rfl (by kernel_rfl) (by kernel_rfl) (by kernel_rfl) (by kernel_rfl) (fun _ _ _ h => h) (fun w' _ => by kernel_rfl) hS ?_
  simp only [Act.put, List.setIfInBounds_toArray, List.set_cons_zero, List.set_cons_succ]
  refine h_one (i := 6) (by kernel_rfl) (o_call rfl 9 rfl (by kernel_rfl) (run_op_call 37 _ _ rfl #[.int .u32 (L : Int)] (by simp only [List.map_toArray, List.map_cons, List.map_nil]; rfl) Try.func37 (by kernel_rfl) (by kernel_rfl) _) (C _ hL) ?_)
  rintro e y1 ⟨rfl, hB1⟩
  have hS1 : Below wz.heap.size wz y1 := below_step hS hS.size hB1
  refine ⟨_, rfl, hS1, ?_⟩
  clear hB1
  simp only [Act.put, List.setIfInBounds_toArray, List.set_cons_zero, List.set_cons_succ]
  refine h_take 10 (.pointer (some ⟨P, 1 + j, none⟩)) rfl 13 rfl (by kernel_rfl) (by kernel_rfl) (by kernel_rfl) (by kernel_rfl) (fun _ _ _ h => h) (fun w' _ => run_op_indexA _ _ _ rfl 4 22 (by kernel_rfl) (by kernel_rfl) P 1 rfl .i64 j rfl hj w') hS1 ?_
  simp only [Act.put, List.setIfInBounds_toArray, List.set_cons_zero, List.set_cons_succ]
  refine h_take 11 (.int .u32 (x : Int)) rfl 14 rfl (by kernel_rfl) (by kernel_rfl) (by kernel_rfl) (by kernel_rfl) (fun _ _ _ h => h) (fun w' hC => run_op_load32 _ rfl _ rfl _ ((rz.old hC).cell HX.out)) hS1 ?_
  simp only [Act.put, List.setIfInBounds_toArray, List.set_cons_zero, List.set_cons_succ]
  refine h_take 12 (.bool v) rfl 15 rfl (by kernel_rfl) (by kernel_rfl) (by kernel_rfl) (by kernel_rfl) (fun _ _ _ h => h) (fun w' _ => (run_op_eqlI _ _ .u32 (by kernel_rfl) _ _ rfl .u32 _ _ rfl rfl w').trans (by rw [HV.out])) hS1 ?_
  simp only [Act.put, List.setIfInBounds_toArray, List.set_cons_zero, List.set_cons_succ]
  refine h_take 13 (.bool v) rfl 2 rfl (by kernel_rfl) (by kernel_rfl) (by kernel_rfl) (by kernel_rfl) (fun _ _ _ h => h) (fun w' _ => by kernel_rfl) hS1 ?_
  simp only [Act.put, List.setIfInBounds_toArray, List.set_cons_zero, List.set_cons_succ]
  refine wpAnyH_done (by kernel_rfl) ?_ _
  have belF := below_step belz belz.size hS1
  go_wp2_with fail
  go_ret
  exact ⟨rfl, belF⟩
theorem looks_any (P L s : Nat) (cs : List Nat) (w : World) (hr : Row w P 57 (pcs L cs s)) (hL : L < 4294967296) (hs : s < 4294967296) (hl : cs.length = 4) :
    Calls Try.prog 24 #[.pointer (some ⟨P, 0, none⟩)] w fun e w' => e = .returned (.bool (decide (12 ≤ s ∧ cs.getD (L % 4) 0 = 1))) ∧ Below w.heap.size w w' := by
  have cS := hr.cell (pcs_getS (L := L) (s := s) hl)
  have C := Lib.hid (alone_any P L s cs w hr hL hl)
  obtain ⟨v, hv⟩ : ∃ v : Bool, v = decide (12 ≤ s ∧ cs.getD (L % 4) 0 = 1) := ⟨_, rfl⟩
  rw [← hv]
  by_cases h12 : 12 ≤ s
  · have hd : decide ((12 : Int) ≤ (s : Int)) = true := decide_eq_true (by omega)
    have hq : decide (cs.getD (L % 4) 0 = 1) = v := by rw [hv]; exact decide_eq_decide.2 ⟨fun h => ⟨h12, h⟩, fun h => h.2⟩
    rw [hq] at C
    clear hv hq
    go_enter Try.func24, Try.ntmps24
    go_wp2_with fail
    refine C.out.mono ?_
    rintro e wb ⟨rfl, hB⟩
    go_wp2_with fail
    go_ret
    exact ⟨rfl, hB⟩
  · have hd : decide ((12 : Int) ≤ (s : Int)) = false := decide_eq_false (by omega)
    obtain rfl : v = false := by rw [hv]; exact decide_eq_false (fun h => h12 h.1)
    clear hv
    go_enter Try.func24, Try.ntmps24
    go_wp2_with fail
    go_ret
    exact ⟨rfl, Below.refl _ _⟩
end Go.Proofs.Ytbbmjjphkmjnbaa.Wn
