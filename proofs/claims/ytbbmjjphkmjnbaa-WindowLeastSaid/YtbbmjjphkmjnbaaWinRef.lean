/-
  The contracts of the document's Relative and Put for window states. Over this seat's translation.
-/
import Derived.Test.YtbbmjjphkmjnbaaWinPutter
import Derived.Test.YtbbmjjphkmjnbaaWinPut
namespace Go.Proofs.Ytbbmjjphkmjnbaa.Wn
open Go.ChangeShapes Go.WideShapes Go.ChangeAt Go.RowKit Go.Proofs.Ytbbmjjphkmjnbaa.Mem Go.Proofs.Ytbbmjjphkmjnbaa.Bt Go.Proofs.Ytbbmjjphkmjnbaa.Rg
set_option linter.unusedVariables false
set_option linter.unusedSimpArgs false

theorem run_op_lssI {P : Program} {o : Oper} {a : Act} (t t' : TypeId) (k' : IntKind) (hu : P.underlying t = some (.int k')) (x y : Operand) (ho : o.op = .binOp .lss t x y t') (k : IntKind) (m n : Int) (hx : a.eval x = .int k m) (hy : a.eval y = .int k n) (w : World) :
    (execOp a.eval o).run P w = .ok (.value (.bool (decide (m < n)))) w := by
  unfold execOp
  simp [ho, hx, hy, eqGuard, binOp, Op.intCmp]
theorem run_op_leqI {P : Program} {o : Oper} {a : Act} (t t' : TypeId) (k' : IntKind) (hu : P.underlying t = some (.int k')) (x y : Operand) (ho : o.op = .binOp .leq t x y t') (k : IntKind) (m n : Int) (hx : a.eval x = .int k m) (hy : a.eval y = .int k n) (w : World) :
    (execOp a.eval o).run P w = .ok (.value (.bool (decide (m ≤ n)))) w := by
  unfold execOp
  simp [ho, hx, hy, eqGuard, binOp, Op.intCmp]
set_option maxHeartbeats 2000000 in
set_option maxRecDepth 100000 in
theorem rwrel_any (M L s : Nat) (cs : List Nat) (w : World) (hM : M < 4294967296) (hL : L < 4294967296) (hs : s < 4294967296) (hr : Rt L cs) (hl : cs.length = 4) :
    Calls Try.prog 15 #[.agg (wcs M L cs).toArray, .int .u32 (s : Int)] w fun e w' => e = .returned (.int .u32 (relN M L cs s : Nat)) ∧ Below w.heap.size w w' := by
  have HL := Lib.hid hl
  have hub : s / 3 < 4294967296 := by omega
  have CBF := fun w0 => Lib.hid (rbefore_any L (s / 3) cs w0 hL hub hr.1 hl)
  have CSUB := fun w0 => Lib.hid (sub_nat s w0 hs)
  have HBE : Hid (L < s / 3 → befE L (s / 3) = 0) := fun h => befE_ok h
  obtain ⟨rv, hrv⟩ : ∃ rv, rv = relN M L cs s := ⟨_, rfl⟩
  rw [← hrv]
  unfold relN at hrv
  generalize befN L cs (s / 3) = bn at CBF hrv
  generalize befE L (s / 3) = be at CBF HBE
  generalize s / 3 = u at CBF CSUB HBE hub hrv
  clear hr hl
  by_cases h12 : s < 12
  · have hd : Hid (decide ((s : Int) < 12) = true) := decide_eq_true (by omega)
    obtain rfl : M = rv := by rw [hrv, if_pos (Or.inl h12)]
    clear hrv CBF CSUB HBE
    go_enter Try.func15, Try.ntmps15
    go_wp2_with (first
      | ((with_reducible refine at_slot 2 ?_); (refine arm_box (o := ⟨some 2, _, _, _, _, _⟩) rfl _ _ rfl (wcs M L cs) rfl ?_); intro B wa Be hwa nwa))
    refine wp_region_held (S := fun w' => Below wa.drew.heap.size wa.drew w') (by kernel_rfl) ?_
    change wpAnyH _ _ _ _ _ _ _ _ wa.drew
    have rz : Row wa.drew B 33 (wcs M L cs) := hwa
    have belz : Below w.heap.size w wa.drew := nwa.below.trans ((Below.refl _ _).drew)
    generalize wa.drew = wz at rz belz ⊢
    clear hwa nwa Be
    clear wa
    have hS : Below wz.heap.size wz wz := Below.refl _ _
    refine h_take 0 (.int .u32 (s : Int)) rfl 7 rfl (by kernel_rfl) (by kernel_rfl) (by kernel_rfl) (by kernel_rfl) (fun _ _ _ h => h) (fun w' _ => by kernel_rfl) hS ?_
    simp only [Act.put, List.setIfInBounds_toArray, List.set_cons_zero, List.set_cons_succ]
    refine h_take 1 (.bool true) rfl 8 rfl (by kernel_rfl) (by kernel_rfl) (by kernel_rfl) (by kernel_rfl) (fun _ _ _ h => h) (fun w' _ => (run_op_lssI _ _ .u32 (by kernel_rfl) _ _ rfl .u32 _ _ rfl rfl w').trans (by rw [hd.out])) hS ?_
    simp only [Act.put, List.setIfInBounds_toArray, List.set_cons_zero, List.set_cons_succ]
    refine h_take 2 (.bool true) rfl 9 rfl (by kernel_rfl) (by kernel_rfl) (by kernel_rfl) (by kernel_rfl) (fun _ _ _ h => h) (fun w' _ => by kernel_rfl) hS ?_
    simp only [Act.put, List.setIfInBounds_toArray, List.set_cons_zero, List.set_cons_succ]
    refine h_pass 3 rfl 10 rfl (by kernel_rfl) (by kernel_rfl) (by kernel_rfl) (by kernel_rfl) (fun _ _ _ h => h) hS ?_
    simp only [Act.put, List.setIfInBounds_toArray, List.set_cons_zero, List.set_cons_succ]
    refine h_pass 4 rfl 11 rfl (by kernel_rfl) (by kernel_rfl) (by kernel_rfl) (by kernel_rfl) (fun _ _ _ h => h) hS ?_
    simp only [Act.put, List.setIfInBounds_toArray, List.set_cons_zero, List.set_cons_succ]
    refine h_pass 5 rfl 12 rfl (by kernel_rfl) (by kernel_rfl) (by kernel_rfl) (by kernel_rfl) (fun _ _ _ h => h) hS ?_
    simp only [Act.put, List.setIfInBounds_toArray, List.set_cons_zero, List.set_cons_succ]
    refine h_pass 6 rfl 13 rfl (by kernel_rfl) (by kernel_rfl) (by kernel_rfl) (by kernel_rfl) (fun _ _ _ h => h) hS ?_
    simp only [Act.put, List.setIfInBounds_toArray, List.set_cons_zero, List.set_cons_succ]
    refine h_pass 7 rfl 14 rfl (by kernel_rfl) (by kernel_rfl) (by kernel_rfl) (by kernel_rfl) (fun _ _ _ h => h) hS ?_
    simp only [Act.put, List.setIfInBounds_toArray, List.set_cons_zero, List.set_cons_succ]
    refine h_pass 8 rfl 15 rfl (by kernel_rfl) (by kernel_rfl) (by kernel_rfl) (by kernel_rfl) (fun _ _ _ h => h) hS ?_
    simp only [Act.put, List.setIfInBounds_toArray, List.set_cons_zero, List.set_cons_succ]
    refine h_take 9 (.bool true) rfl 16 rfl (by kernel_rfl) (by kernel_rfl) (by kernel_rfl) (by kernel_rfl) (fun _ _ _ h => h) (fun w' _ => by kernel_rfl) hS ?_
    simp only [Act.put, List.setIfInBounds_toArray, List.set_cons_zero, List.set_cons_succ]
    refine wpAnyH_done (by kernel_rfl) ?_ _
    have cB := rz.cell (wcs_get0 M L cs)
    go_wp2_with fail
    go_ret
    exact ⟨rfl, belz⟩
  · have hd : Hid (decide ((s : Int) < 12) = false) := decide_eq_false (by omega)
    obtain ⟨v, hv⟩ : ∃ v : Bool, v = decide ((u : Int) ≤ (L : Int)) := ⟨_, rfl⟩
    have HV := Lib.hid hv.symm
    have HRV := Lib.hid hrv
    clear hrv
    go_enter Try.func15, Try.ntmps15
    go_wp2_with (first
      | ((with_reducible refine at_slot 2 ?_); (refine arm_box (o := ⟨some 2, _, _, _, _, _⟩) rfl _ _ rfl (wcs M L cs) rfl ?_); intro B wa Be hwa nwa))
    refine wp_region_held (S := fun w' => Below wa.drew.heap.size wa.drew w') (by kernel_rfl) ?_
    change wpAnyH _ _ _ _ _ _ _ _ wa.drew
    have rz : Row wa.drew B 33 (wcs M L cs) := hwa
    have belz : Below w.heap.size w wa.drew := nwa.below.trans ((Below.refl _ _).drew)
    generalize wa.drew = wz at rz belz ⊢
    clear hwa nwa Be
    clear wa
    have hS : Below wz.heap.size wz wz := Below.refl _ _
    refine h_take 0 (.int .u32 (s : Int)) rfl 7 rfl (by kernel_rfl) (by kernel_rfl) (by kernel_rfl) (by kernel_rfl) (fun _ _ _ h => h) (fun w' _ => by kernel_rfl) hS ?_
    simp only [Act.put, List.setIfInBounds_toArray, List.set_cons_zero, List.set_cons_succ]
    refine h_take 1 (.bool false) rfl 8 rfl (by kernel_rfl) (by kernel_rfl) (by kernel_rfl) (by kernel_rfl) (fun _ _ _ h => h) (fun w' _ => (run_op_lssI _ _ .u32 (by kernel_rfl) _ _ rfl .u32 _ _ rfl rfl w').trans (by rw [hd.out])) hS ?_
    simp only [Act.put, List.setIfInBounds_toArray, List.set_cons_zero, List.set_cons_succ]
    refine h_take 2 (.bool false) rfl 9 rfl (by kernel_rfl) (by kernel_rfl) (by kernel_rfl) (by kernel_rfl) (fun _ _ _ h => h) (fun w' _ => by kernel_rfl) hS ?_
    simp only [Act.put, List.setIfInBounds_toArray, List.set_cons_zero, List.set_cons_succ]
    refine h_take 3 (.int .u32 (s : Int)) rfl 10 rfl (by kernel_rfl) (by kernel_rfl) (by kernel_rfl) (by kernel_rfl) (fun _ _ _ h => h) (fun w' _ => by kernel_rfl) hS ?_
    simp only [Act.put, List.setIfInBounds_toArray, List.set_cons_zero, List.set_cons_succ]
    refine h_take 5 (.pointer (some ⟨B, 1, none⟩)) rfl 12 rfl (by kernel_rfl) (by kernel_rfl) (by kernel_rfl) (by kernel_rfl) (fun _ _ _ h => h) (fun w' _ => by kernel_rfl) hS ?_
    simp only [Act.put, List.setIfInBounds_toArray, List.set_cons_zero, List.set_cons_succ]
    refine h_take 6 (.pointer (some ⟨B, 1, none⟩)) rfl 13 rfl (by kernel_rfl) (by kernel_rfl) (by kernel_rfl) (by kernel_rfl) (fun _ _ _ h => h) (fun w' _ => by kernel_rfl) hS ?_
    simp only [Act.put, List.setIfInBounds_toArray, List.set_cons_zero, List.set_cons_succ]
    refine h_take 7 (.int .u32 (L : Int)) rfl 14 rfl (by kernel_rfl) (by kernel_rfl) (by kernel_rfl) (by kernel_rfl) (fun _ _ _ h => h) (fun w' hC => run_op_load32 _ rfl _ rfl _ ((rz.old hC).cell (wcs_get1 M L cs))) hS ?_
    simp only [Act.put, List.setIfInBounds_toArray, List.set_cons_zero, List.set_cons_succ]
    refine h_one (i := 4) (by kernel_rfl) (o_call rfl 11 rfl (by kernel_rfl) (run_op_call 17 _ _ rfl #[.int .u32 (s : Int)] (by simp only [List.map_toArray, List.map_cons, List.map_nil]; rfl) Try.func17 (by kernel_rfl) (by kernel_rfl) _) ((CSUB _).out) ?_)
    rintro e y ⟨rfl, rfl⟩
    refine ⟨_, rfl, hS, ?_⟩
    simp only [Act.put, List.setIfInBounds_toArray, List.set_cons_zero, List.set_cons_succ]
    refine h_take 8 (.bool v) rfl 15 rfl (by kernel_rfl) (by kernel_rfl) (by kernel_rfl) (by kernel_rfl) (fun _ _ _ h => h) (fun w' _ => (run_op_leqI _ _ .u32 (by kernel_rfl) _ _ rfl .u32 _ _ rfl rfl w').trans (by rw [HV.out])) hS ?_
    simp only [Act.put, List.setIfInBounds_toArray, List.set_cons_zero, List.set_cons_succ]
    refine h_take 9 (.bool v) rfl 16 rfl (by kernel_rfl) (by kernel_rfl) (by kernel_rfl) (by kernel_rfl) (fun _ _ _ h => h) (fun w' _ => by kernel_rfl) hS ?_
    simp only [Act.put, List.setIfInBounds_toArray, List.set_cons_zero, List.set_cons_succ]
    refine wpAnyH_done (by kernel_rfl) ?_ _
    have cB := rz.cell (wcs_get0 M L cs)
    by_cases hu : u ≤ L
    · obtain rfl : v = true := by rw [hv]; exact decide_eq_true (by omega)
      obtain rfl : M = rv := by rw [HRV.out, if_pos (Or.inr hu)]
      clear hv HV HRV CBF CSUB HBE
      go_wp2_with fail
      go_ret
      exact ⟨rfl, belz⟩
    · obtain rfl : v = false := by rw [hv]; exact decide_eq_false (by omega)
      have HR2 : Hid (rv = min M bn) := by rw [HRV.out]; exact if_neg (by omega)
      obtain rfl := HBE.out (by omega)
      clear hv HV HRV HBE cB
      go_wp2_with fail
      refine wp_region_held (S := fun w' => Below wz.drew.heap.size wz.drew w') (by kernel_rfl) ?_
      change wpAnyH _ _ _ _ _ _ _ _ wz.drew
      have rx : Row wz.drew B 33 (wcs M L cs) := rz
      have belx : Below w.heap.size w wz.drew := belz.trans ((Below.refl _ _).drew)
      generalize wz.drew = wx at rx belx ⊢
      clear rz belz hS
      clear wz
      have hS : Below wx.heap.size wx wx := Below.refl _ _
      refine h_take 0 (.pointer (some ⟨B, 1, none⟩)) rfl 20 rfl (by kernel_rfl) (by kernel_rfl) (by kernel_rfl) (by kernel_rfl) (fun _ _ _ h => h) (fun w' _ => by kernel_rfl) hS ?_
      simp only [Act.put, List.setIfInBounds_toArray, List.set_cons_zero, List.set_cons_succ]
      refine h_take 1 (.agg (rcs L cs).toArray) rfl 21 rfl (by kernel_rfl) (by kernel_rfl) (by kernel_rfl) (by kernel_rfl) (fun _ _ _ h => h) (fun w' hC => run_op_load _ _ rfl B 1 rfl (rcs L cs) (row_ring (rx.old hC)) (sz_rref' HL.out)) hS ?_
      simp only [Act.put, List.setIfInBounds_toArray, List.set_cons_zero, List.set_cons_succ]
      refine h_take 2 (.int .u32 (s : Int)) rfl 22 rfl (by kernel_rfl) (by kernel_rfl) (by kernel_rfl) (by kernel_rfl) (fun _ _ _ h => h) (fun w' _ => by kernel_rfl) hS ?_
      simp only [Act.put, List.setIfInBounds_toArray, List.set_cons_zero, List.set_cons_succ]
      refine h_one (i := 3) (by kernel_rfl) (o_call rfl 23 rfl (by kernel_rfl) (run_op_call 17 _ _ rfl #[.int .u32 (s : Int)] (by simp only [List.map_toArray, List.map_cons, List.map_nil]; rfl) Try.func17 (by kernel_rfl) (by kernel_rfl) _) ((CSUB _).out) ?_)
      rintro e y ⟨rfl, rfl⟩
      refine ⟨_, rfl, hS, ?_⟩
      simp only [Act.put, List.setIfInBounds_toArray, List.set_cons_zero, List.set_cons_succ]
      refine h_one (i := 4) (by kernel_rfl) (o_call rfl 24 rfl (by kernel_rfl) (run_op_call 27 _ _ rfl #[.agg (rcs L cs).toArray, .int .u32 (u : Int)] (by simp only [List.map_toArray, List.map_cons, List.map_nil]; rfl) Try.func27 (by kernel_rfl) (by kernel_rfl) _) ((CBF _).out) ?_)
      rintro e y1 ⟨rfl, hB1⟩
      have hS1 : Below wx.heap.size wx y1 := below_step hS hS.size hB1
      refine ⟨_, rfl, hS1, ?_⟩
      clear hB1
      simp only [Act.put, List.setIfInBounds_toArray, List.set_cons_zero, List.set_cons_succ]
      refine h_take 5 (.tuple #[.int .u32 (bn : Nat), .int .i64 0]) rfl 19 rfl (by kernel_rfl) (by kernel_rfl) (by kernel_rfl) (by kernel_rfl) (fun _ _ _ h => h) (fun w' _ => by kernel_rfl) hS1 ?_
      simp only [Act.put, List.setIfInBounds_toArray, List.set_cons_zero, List.set_cons_succ]
      refine h_take 6 (.int .u32 (bn : Nat)) rfl 25 rfl (by kernel_rfl) (by kernel_rfl) (by kernel_rfl) (by kernel_rfl) (fun _ _ _ h => h) (fun w' _ => by kernel_rfl) hS1 ?_
      simp only [Act.put, List.setIfInBounds_toArray, List.set_cons_zero, List.set_cons_succ]
      refine h_take 7 (.int .i64 0) rfl 26 rfl (by kernel_rfl) (by kernel_rfl) (by kernel_rfl) (by kernel_rfl) (fun _ _ _ h => h) (fun w' _ => by kernel_rfl) hS1 ?_
      simp only [Act.put, List.setIfInBounds_toArray, List.set_cons_zero, List.set_cons_succ]
      refine h_take 8 (.int .u32 (bn : Nat)) rfl 5 rfl (by kernel_rfl) (by kernel_rfl) (by kernel_rfl) (by kernel_rfl) (fun _ _ _ h => h) (fun w' _ => by kernel_rfl) hS1 ?_
      simp only [Act.put, List.setIfInBounds_toArray, List.set_cons_zero, List.set_cons_succ]
      refine h_take 9 (.int .i64 0) rfl 6 rfl (by kernel_rfl) (by kernel_rfl) (by kernel_rfl) (by kernel_rfl) (fun _ _ _ h => h) (fun w' _ => by kernel_rfl) hS1 ?_
      simp only [Act.put, List.setIfInBounds_toArray, List.set_cons_zero, List.set_cons_succ]
      refine wpAnyH_done (by kernel_rfl) ?_ _
      have bel := below_step belx belx.size hS1
      have cB := (rx.old hS1).cell (wcs_get0 M L cs)
      clear rx belx hS hS1 CBF CSUB
      by_cases hb : bn < M
      · have hdb : decide ((bn : Int) < (M : Int)) = true := decide_eq_true (by omega)
        obtain rfl : bn = rv := by rw [HR2.out]; omega
        clear HR2
        go_wp2_with fail
        go_ret
        exact ⟨rfl, bel⟩
      · have hdb : decide ((bn : Int) < (M : Int)) = false := decide_eq_false (by omega)
        obtain rfl : M = rv := by rw [HR2.out]; omega
        clear HR2
        go_wp2_with fail
        go_ret
        exact ⟨rfl, bel⟩
theorem putM_rel {M L s : Nat} {cs : List Nat} (h : L ≤ s / 3 ∧ atG L cs ((s / 3 : Nat) : Int) < 3) : putM M L cs s = relN M L cs s := if_pos h
set_option maxHeartbeats 4000000 in
set_option maxRecDepth 100000 in
theorem rwput_any (M L s : Nat) (cs : List Nat) (w : World) (hM : M < 4294967296) (hL : L < 4294967296) (hs : s < 4294967296) (hr : Rt L cs) (hl : cs.length = 4) :
    Calls Try.prog 13 #[.agg (wcs M L cs).toArray, .int .u32 (s : Int)] w fun e w' => e = .returned (.tuple #[.agg (wcs (putM M L cs s) (putL L cs (s / 3)) (putC L cs (s / 3))).toArray, .int .i64 (putE L cs (s / 3))]) ∧ Below w.heap.size w w' := by
  have HL := Lib.hid hl
  have hub : s / 3 < 4294967296 := by omega
  have CSUB := fun w0 => Lib.hid (rsubB_any s w0 hs)
  have CPUT := fun w0 => Lib.hid (rput_any L (s / 3) cs w0 hL hub hr.1 hl)
  have CREL := fun w0 => Lib.hid (rwrel_any M L s cs w0 hM hL hs hr hl)
  have HPD := Lib.hid (putd_len L cs (s / 3))
  clear hr hl
  by_cases hok : L ≤ s / 3 ∧ atG L cs ((s / 3 : Nat) : Int) < 3
  · obtain ⟨e1, e2, e3, e4, e5⟩ := put_yes hok
    rw [e1, e2, e3] at CPUT
    rw [e1, e2, e3, putM_rel hok]
    clear hok e1 e2 e3 e4 e5
    generalize relN M L cs s = rv at CREL ⊢
    generalize putd L cs (s / 3) = pd at CPUT HPD ⊢
    generalize s / 3 = u at CSUB CPUT hub ⊢
    go_enter Try.func13, Try.ntmps13
    go_wp2_with (first
      | ((with_reducible refine at_slot 2 ?_); (refine arm_box (o := ⟨some 2, _, _, _, _, _⟩) rfl _ _ rfl (wcs M L cs) rfl ?_); intro B wa Be hwa nwa)
      | ((with_reducible refine at_slot 4 ?_); (refine arm_alloc (o := ⟨some 4, _, _, _, _, _⟩) rfl _ rfl (wcs 0 0 [0, 0, 0, 0]) z_rwin ?_); intro R wb Re hwb nwb))
    have eB := Be.out; have eR := Re.out; have za := nwa.size; have zb := nwb.size
    have bel : Below w.heap.size w wb := below_step nwa.below (by omega) nwb.below
    have rB := hwa.old nwb.below
    have AP : Hid (w.heap.size ≤ R ∧ B ≠ R) := ⟨by omega, by omega⟩
    have rR := hwb
    clear eB eR za zb Be Re hwa hwb nwa nwb
    clear wa
    go_cut [6, 7] (fun nn ee wx => ∃ N : Nat, nn = .pointer (some ⟨N, 0, none⟩) ∧ ee = .int .i64 0 ∧ Row wx N 31 (rcs u pd) ∧ Below wb.heap.size wb wx ∧ wb.heap.size ≤ N)
    case first =>
      obtain ⟨Z, hZ⟩ : ∃ Z, Z = wb.heap.size := ⟨_, rfl⟩
      refine wp_region_held (S := fun w' => Below Z wb.drew w') (by kernel_rfl) ?_
      change wpAnyH _ _ _ _ _ _ _ _ wb.drew
      have rz : Row wb.drew B 33 (wcs M L cs) := rB
      have rl : B < Z := by have := rB.lt; omega
      have belz : Below wb.heap.size wb wb.drew := (Below.refl _ _).drew
      have hS : Below Z wb.drew wb.drew := Below.refl _ _
      have ez : wb.drew.heap.size = wb.heap.size := rfl
      have ZL : Hid (Z ≤ wb.drew.heap.size) := Lib.hid (by omega)
      have ZW := Lib.hid hZ
      generalize wb.drew = wz at rz belz hS ZL ⊢
      clear hZ ez
      refine h_take 0 (.pointer (some ⟨B, 1, none⟩)) rfl 9 rfl (by kernel_rfl) (by kernel_rfl) (by kernel_rfl) (by kernel_rfl) (fun _ _ _ h => h) (fun w' _ => by kernel_rfl) hS ?_
      simp only [Act.put, List.setIfInBounds_toArray, List.set_cons_zero, List.set_cons_succ]
      refine h_take 1 (.agg (rcs L cs).toArray) rfl 10 rfl (by kernel_rfl) (by kernel_rfl) (by kernel_rfl) (by kernel_rfl) (fun _ _ _ h => h) (fun w' hC => run_op_load _ _ rfl B 1 rfl (rcs L cs) (row_ring (rz.below hC rl)) (sz_rref' HL.out)) hS ?_
      simp only [Act.put, List.setIfInBounds_toArray, List.set_cons_zero, List.set_cons_succ]
      refine h_take 2 (.int .u32 (s : Int)) rfl 11 rfl (by kernel_rfl) (by kernel_rfl) (by kernel_rfl) (by kernel_rfl) (fun _ _ _ h => h) (fun w' _ => by kernel_rfl) hS ?_
      simp only [Act.put, List.setIfInBounds_toArray, List.set_cons_zero, List.set_cons_succ]
      refine h_two (i := 3) (j := 8) (by kernel_rfl) ?_ ?_
      · skip
        refine (o_call rfl 12 rfl (by kernel_rfl) (run_op_call 17 _ _ rfl #[.int .u32 (s : Int)] (by simp only [List.map_toArray, List.map_cons, List.map_nil]; rfl) Try.func17 (by kernel_rfl) (by kernel_rfl) _) (CSUB _).out ?_)
        rintro e y0 ⟨rfl, hB⟩
        have hS0 : Below Z wz y0 := below_step hS (Nat.le_trans ZL.out hS.size) hB
        refine ⟨_, rfl, hS0, ?_⟩
        clear hB
        simp only [Act.put, List.setIfInBounds_toArray, List.set_cons_zero, List.set_cons_succ]
        refine h_two (i := 4) (j := 8) (by kernel_rfl) ?_ ?_
        · skip
          refine (o_call rfl 13 rfl (by kernel_rfl) (run_op_call 26 _ _ rfl #[.agg (rcs L cs).toArray, .int .u32 (u : Int)] (by simp only [List.map_toArray, List.map_cons, List.map_nil]; rfl) Try.func26 (by kernel_rfl) (by kernel_rfl) _) (CPUT _).out ?_)
          rintro e y1 ⟨rfl, hB⟩
          have hS1 : Below Z wz y1 := below_step hS0 (Nat.le_trans ZL.out hS0.size) hB
          refine ⟨_, rfl, hS1, ?_⟩
          clear hB
          simp only [Act.put, List.setIfInBounds_toArray, List.set_cons_zero, List.set_cons_succ]
          refine h_take 5 (.tuple #[.agg (rcs u pd).toArray, .int .i64 0]) rfl 8 rfl (by kernel_rfl) (by kernel_rfl) (by kernel_rfl) (by kernel_rfl) (fun _ _ _ h => h) (fun w' _ => by kernel_rfl) hS1 ?_
          simp only [Act.put, List.setIfInBounds_toArray, List.set_cons_zero, List.set_cons_succ]
          refine h_take 6 (.agg (rcs u pd).toArray) rfl 14 rfl (by kernel_rfl) (by kernel_rfl) (by kernel_rfl) (by kernel_rfl) (fun _ _ _ h => h) (fun w' _ => by kernel_rfl) hS1 ?_
          simp only [Act.put, List.setIfInBounds_toArray, List.set_cons_zero, List.set_cons_succ]
          refine h_take 7 (.int .i64 0) rfl 15 rfl (by kernel_rfl) (by kernel_rfl) (by kernel_rfl) (by kernel_rfl) (fun _ _ _ h => h) (fun w' _ => by kernel_rfl) hS1 ?_
          simp only [Act.put, List.setIfInBounds_toArray, List.set_cons_zero, List.set_cons_succ]
          refine h_one (i := 8) (by kernel_rfl) (o_value _ rfl 6 rfl (by kernel_rfl) (run_op_alloc _ rfl (rcs 0 [0, 0, 0, 0]) z_rref) ?_)
          have hN := new_alloc y1 (.cells (rcs 0 [0, 0, 0, 0]).toArray 31)
          have rN2 : Row (y1.alloc (.cells (rcs 0 [0, 0, 0, 0]).toArray 31)) y1.heap.size 31 (rcs 0 [0, 0, 0, 0]) := heap_alloc_new _ _
          have lN : Z ≤ y1.heap.size := Nat.le_trans ZL.out hS1.size
          generalize y1.alloc (.cells (rcs 0 [0, 0, 0, 0]).toArray 31) = y2 at hN rN2 ⊢
          have hS2 : Below Z wz y2 := below_step hS1 (Nat.le_trans ZL.out hS1.size) hN.below
          clear hN
          refine ⟨hS2, ?_⟩
          generalize y1.heap.size = N at rN2 lN ⊢
          simp only [Act.put, List.setIfInBounds_toArray, List.set_cons_zero, List.set_cons_succ]
          refine h_one (i := 9) (by kernel_rfl) (o_skip rfl rfl (by kernel_rfl) (run_op_store _ _ _ rfl N 0 rfl (rcs u pd) rfl _ _ rN2 (fit5 HPD.out) (rcs_one _ _) (sz_rref' HPD.out)) ?_)
          have rNf := row_setRow rN2 (lay (rcs 0 [0, 0, 0, 0]) 0 (rcs u pd))
          have oNf := Only.setRow N y2 (lay (rcs 0 [0, 0, 0, 0]) 0 (rcs u pd)).toArray
          generalize y2.setRow N (lay (rcs 0 [0, 0, 0, 0]) 0 (rcs u pd)).toArray = yf at rNf oNf ⊢
          have hSf : Below Z wz yf := below_only hS2 oNf lN (Nat.le_trans ZL.out hS2.size)
          refine ⟨hSf, ?_⟩
          refine h_take 10 (.int .i64 0) rfl 7 rfl (by kernel_rfl) (by kernel_rfl) (by kernel_rfl) (by kernel_rfl) (fun _ _ _ h => h) (fun w' _ => by kernel_rfl) hSf ?_
          simp only [Act.put, List.setIfInBounds_toArray, List.set_cons_zero, List.set_cons_succ]
          refine wpAnyH_done (by kernel_rfl) ?_ _
          go_wp2_with fail
          go_meet
          exact ⟨N, rfl, rfl, rNf.congr (lay_all _ _ (len5 HPD.out)), belz.trans (ZW.out ▸ hSf), ZW.out ▸ lN⟩
        · skip
          refine (o_value _ rfl 6 rfl (by kernel_rfl) (run_op_alloc _ rfl (rcs 0 [0, 0, 0, 0]) z_rref) ?_)
          have hN := new_alloc y0 (.cells (rcs 0 [0, 0, 0, 0]).toArray 31)
          have rN1 : Row (y0.alloc (.cells (rcs 0 [0, 0, 0, 0]).toArray 31)) y0.heap.size 31 (rcs 0 [0, 0, 0, 0]) := heap_alloc_new _ _
          have lN : Z ≤ y0.heap.size := Nat.le_trans ZL.out hS0.size
          generalize y0.alloc (.cells (rcs 0 [0, 0, 0, 0]).toArray 31) = y1 at hN rN1 ⊢
          have hS1 : Below Z wz y1 := below_step hS0 (Nat.le_trans ZL.out hS0.size) hN.below
          clear hN
          refine ⟨hS1, ?_⟩
          generalize y0.heap.size = N at rN1 lN ⊢
          simp only [Act.put, List.setIfInBounds_toArray, List.set_cons_zero, List.set_cons_succ]
          refine h_one (i := 4) (by kernel_rfl) (o_call rfl 13 rfl (by kernel_rfl) (run_op_call 26 _ _ rfl #[.agg (rcs L cs).toArray, .int .u32 (u : Int)] (by simp only [List.map_toArray, List.map_cons, List.map_nil]; rfl) Try.func26 (by kernel_rfl) (by kernel_rfl) _) (CPUT _).out ?_)
          rintro e y2 ⟨rfl, hB⟩
          have hS2 : Below Z wz y2 := below_step hS1 (Nat.le_trans ZL.out hS1.size) hB
          refine ⟨_, rfl, hS2, ?_⟩
          have rN2 := rN1.old hB
          clear hB
          simp only [Act.put, List.setIfInBounds_toArray, List.set_cons_zero, List.set_cons_succ]
          refine h_take 5 (.tuple #[.agg (rcs u pd).toArray, .int .i64 0]) rfl 8 rfl (by kernel_rfl) (by kernel_rfl) (by kernel_rfl) (by kernel_rfl) (fun _ _ _ h => h) (fun w' _ => by kernel_rfl) hS2 ?_
          simp only [Act.put, List.setIfInBounds_toArray, List.set_cons_zero, List.set_cons_succ]
          refine h_take 6 (.agg (rcs u pd).toArray) rfl 14 rfl (by kernel_rfl) (by kernel_rfl) (by kernel_rfl) (by kernel_rfl) (fun _ _ _ h => h) (fun w' _ => by kernel_rfl) hS2 ?_
          simp only [Act.put, List.setIfInBounds_toArray, List.set_cons_zero, List.set_cons_succ]
          refine h_take 7 (.int .i64 0) rfl 15 rfl (by kernel_rfl) (by kernel_rfl) (by kernel_rfl) (by kernel_rfl) (fun _ _ _ h => h) (fun w' _ => by kernel_rfl) hS2 ?_
          simp only [Act.put, List.setIfInBounds_toArray, List.set_cons_zero, List.set_cons_succ]
          refine h_one (i := 9) (by kernel_rfl) (o_skip rfl rfl (by kernel_rfl) (run_op_store _ _ _ rfl N 0 rfl (rcs u pd) rfl _ _ rN2 (fit5 HPD.out) (rcs_one _ _) (sz_rref' HPD.out)) ?_)
          have rNf := row_setRow rN2 (lay (rcs 0 [0, 0, 0, 0]) 0 (rcs u pd))
          have oNf := Only.setRow N y2 (lay (rcs 0 [0, 0, 0, 0]) 0 (rcs u pd)).toArray
          generalize y2.setRow N (lay (rcs 0 [0, 0, 0, 0]) 0 (rcs u pd)).toArray = yf at rNf oNf ⊢
          have hSf : Below Z wz yf := below_only hS2 oNf lN (Nat.le_trans ZL.out hS2.size)
          refine ⟨hSf, ?_⟩
          refine h_take 10 (.int .i64 0) rfl 7 rfl (by kernel_rfl) (by kernel_rfl) (by kernel_rfl) (by kernel_rfl) (fun _ _ _ h => h) (fun w' _ => by kernel_rfl) hSf ?_
          simp only [Act.put, List.setIfInBounds_toArray, List.set_cons_zero, List.set_cons_succ]
          refine wpAnyH_done (by kernel_rfl) ?_ _
          go_wp2_with fail
          go_meet
          exact ⟨N, rfl, rfl, rNf.congr (lay_all _ _ (len5 HPD.out)), belz.trans (ZW.out ▸ hSf), ZW.out ▸ lN⟩
      · skip
        refine (o_value _ rfl 6 rfl (by kernel_rfl) (run_op_alloc _ rfl (rcs 0 [0, 0, 0, 0]) z_rref) ?_)
        have hN := new_alloc wz (.cells (rcs 0 [0, 0, 0, 0]).toArray 31)
        have rN1 : Row (wz.alloc (.cells (rcs 0 [0, 0, 0, 0]).toArray 31)) wz.heap.size 31 (rcs 0 [0, 0, 0, 0]) := heap_alloc_new _ _
        have lN : Z ≤ wz.heap.size := Nat.le_trans ZL.out hS.size
        generalize wz.alloc (.cells (rcs 0 [0, 0, 0, 0]).toArray 31) = y1 at hN rN1 ⊢
        have hS1 : Below Z wz y1 := below_step hS (Nat.le_trans ZL.out hS.size) hN.below
        clear hN
        refine ⟨hS1, ?_⟩
        generalize wz.heap.size = N at rN1 lN ⊢
        simp only [Act.put, List.setIfInBounds_toArray, List.set_cons_zero, List.set_cons_succ]
        refine h_one (i := 3) (by kernel_rfl) (o_call rfl 12 rfl (by kernel_rfl) (run_op_call 17 _ _ rfl #[.int .u32 (s : Int)] (by simp only [List.map_toArray, List.map_cons, List.map_nil]; rfl) Try.func17 (by kernel_rfl) (by kernel_rfl) _) (CSUB _).out ?_)
        rintro e y2 ⟨rfl, hB⟩
        have hS2 : Below Z wz y2 := below_step hS1 (Nat.le_trans ZL.out hS1.size) hB
        refine ⟨_, rfl, hS2, ?_⟩
        have rN2 := rN1.old hB
        clear hB
        simp only [Act.put, List.setIfInBounds_toArray, List.set_cons_zero, List.set_cons_succ]
        refine h_one (i := 4) (by kernel_rfl) (o_call rfl 13 rfl (by kernel_rfl) (run_op_call 26 _ _ rfl #[.agg (rcs L cs).toArray, .int .u32 (u : Int)] (by simp only [List.map_toArray, List.map_cons, List.map_nil]; rfl) Try.func26 (by kernel_rfl) (by kernel_rfl) _) (CPUT _).out ?_)
        rintro e y3 ⟨rfl, hB⟩
        have hS3 : Below Z wz y3 := below_step hS2 (Nat.le_trans ZL.out hS2.size) hB
        refine ⟨_, rfl, hS3, ?_⟩
        have rN3 := rN2.old hB
        clear hB
        simp only [Act.put, List.setIfInBounds_toArray, List.set_cons_zero, List.set_cons_succ]
        refine h_take 5 (.tuple #[.agg (rcs u pd).toArray, .int .i64 0]) rfl 8 rfl (by kernel_rfl) (by kernel_rfl) (by kernel_rfl) (by kernel_rfl) (fun _ _ _ h => h) (fun w' _ => by kernel_rfl) hS3 ?_
        simp only [Act.put, List.setIfInBounds_toArray, List.set_cons_zero, List.set_cons_succ]
        refine h_take 6 (.agg (rcs u pd).toArray) rfl 14 rfl (by kernel_rfl) (by kernel_rfl) (by kernel_rfl) (by kernel_rfl) (fun _ _ _ h => h) (fun w' _ => by kernel_rfl) hS3 ?_
        simp only [Act.put, List.setIfInBounds_toArray, List.set_cons_zero, List.set_cons_succ]
        refine h_take 7 (.int .i64 0) rfl 15 rfl (by kernel_rfl) (by kernel_rfl) (by kernel_rfl) (by kernel_rfl) (fun _ _ _ h => h) (fun w' _ => by kernel_rfl) hS3 ?_
        simp only [Act.put, List.setIfInBounds_toArray, List.set_cons_zero, List.set_cons_succ]
        refine h_one (i := 9) (by kernel_rfl) (o_skip rfl rfl (by kernel_rfl) (run_op_store _ _ _ rfl N 0 rfl (rcs u pd) rfl _ _ rN3 (fit5 HPD.out) (rcs_one _ _) (sz_rref' HPD.out)) ?_)
        have rNf := row_setRow rN3 (lay (rcs 0 [0, 0, 0, 0]) 0 (rcs u pd))
        have oNf := Only.setRow N y3 (lay (rcs 0 [0, 0, 0, 0]) 0 (rcs u pd)).toArray
        generalize y3.setRow N (lay (rcs 0 [0, 0, 0, 0]) 0 (rcs u pd)).toArray = yf at rNf oNf ⊢
        have hSf : Below Z wz yf := below_only hS3 oNf lN (Nat.le_trans ZL.out hS3.size)
        refine ⟨hSf, ?_⟩
        refine h_take 10 (.int .i64 0) rfl 7 rfl (by kernel_rfl) (by kernel_rfl) (by kernel_rfl) (by kernel_rfl) (fun _ _ _ h => h) (fun w' _ => by kernel_rfl) hSf ?_
        simp only [Act.put, List.setIfInBounds_toArray, List.set_cons_zero, List.set_cons_succ]
        refine wpAnyH_done (by kernel_rfl) ?_ _
        go_wp2_with fail
        go_meet
        exact ⟨N, rfl, rfl, rNf.congr (lay_all _ _ (len5 HPD.out)), belz.trans (ZW.out ▸ hSf), ZW.out ▸ lN⟩
    case rest =>
      obtain ⟨N, rfl, rfl, rN, hbx, lN⟩ := hcut
      have bel1 := bel.trans (hbx.mono bel.size)
      have rB1 := rB.old hbx
      have rR1 := rR.old hbx
      have nNR : N ≠ R := by have := rR.lt; omega
      have NNR := Lib.hid nNR
      clear bel rB rR hbx lN nNR CPUT CSUB
      clear wb
      go_wp2_with fail
      refine wp_region_held (S := fun w' => Row w' B 33 (wcs M L cs) ∧ Row w' N 31 (rcs u pd)) (by kernel_rfl) ?_
      change wpAnyH _ _ _ _ _ _ _ _ wc.drew
      have hS : Row wc.drew B 33 (wcs M L cs) ∧ Row wc.drew N 31 (rcs u pd) := ⟨rB1, rN⟩
      have rz : Row wc.drew R 33 (wcs 0 0 [0, 0, 0, 0]) := rR1
      have belz : Below w.heap.size w wc.drew := bel1.trans ((Below.refl _ _).drew)
      generalize wc.drew = wz at hS rz belz ⊢
      clear rB1 rN rR1 bel1
      clear wc
      refine h_take 0 (.agg (wcs M L cs).toArray) rfl 20 rfl (by kernel_rfl) (by kernel_rfl) (by kernel_rfl) (by kernel_rfl) (fun _ _ _ h => h) (fun w' hC => run_op_load _ _ rfl B 0 rfl (wcs M L cs) (row_all hC.1) (sz_rwin HL.out)) hS ?_
      simp only [Act.put, List.setIfInBounds_toArray, List.set_cons_zero, List.set_cons_succ]
      refine h_take 1 (.int .u32 (s : Int)) rfl 21 rfl (by kernel_rfl) (by kernel_rfl) (by kernel_rfl) (by kernel_rfl) (fun _ _ _ h => h) (fun w' _ => by kernel_rfl) hS ?_
      simp only [Act.put, List.setIfInBounds_toArray, List.set_cons_zero, List.set_cons_succ]
      refine h_take 3 (.agg (rcs u pd).toArray) rfl 23 rfl (by kernel_rfl) (by kernel_rfl) (by kernel_rfl) (by kernel_rfl) (fun _ _ _ h => h) (fun w' hC => run_op_load _ _ rfl N 0 rfl (rcs u pd) (row_all hC.2) (sz_rref' HPD.out)) hS ?_
      simp only [Act.put, List.setIfInBounds_toArray, List.set_cons_zero, List.set_cons_succ]
      refine h_one (i := 2) (by kernel_rfl) (o_call rfl 22 rfl (by kernel_rfl) (run_op_call 15 _ _ rfl #[.agg (wcs M L cs).toArray, .int .u32 (s : Int)] (by simp only [List.map_toArray, List.map_cons, List.map_nil]; rfl) Try.func15 (by kernel_rfl) (by kernel_rfl) _) (CREL _).out ?_)
      rintro e y1 ⟨rfl, hB⟩
      have hS1 : Row y1 B 33 (wcs M L cs) ∧ Row y1 N 31 (rcs u pd) := ⟨hS.1.old hB, hS.2.old hB⟩
      refine ⟨_, rfl, hS1, ?_⟩
      have r1 := rz.old hB
      have bel2 := below_step belz belz.size hB
      clear rz belz hB hS
      simp only [Act.put, List.setIfInBounds_toArray, List.set_cons_zero, List.set_cons_succ]
      refine h_take 4 (.agg (wcs rv u pd).toArray) rfl 24 rfl (by kernel_rfl) (by kernel_rfl) (by kernel_rfl) (by kernel_rfl) (fun _ _ _ h => h) (fun w' _ => run_op_build _ _ rfl (wcs rv u pd) (by simp only [List.map_toArray, List.map_cons, List.map_nil]; exact built_rwin rv u pd HPD.out) w') hS1 ?_
      simp only [Act.put, List.setIfInBounds_toArray, List.set_cons_zero, List.set_cons_succ]
      refine h_one (i := 5) (by kernel_rfl) (o_skip rfl rfl (by kernel_rfl) (run_op_store _ _ _ rfl R 0 rfl (wcs rv u pd) rfl _ _ r1 (fit6 HPD.out) (wcs_one _ _ _) (sz_rwin HPD.out)) ?_)
      have r2 : Row _ R 33 (wcs rv u pd) := (row_setRow r1 (lay (wcs 0 0 [0, 0, 0, 0]) 0 (wcs rv u pd))).congr (lay_all _ _ (len6 HPD.out))
      have o2 := Only.setRow R y1 (lay (wcs 0 0 [0, 0, 0, 0]) 0 (wcs rv u pd)).toArray
      generalize y1.setRow R (lay (wcs 0 0 [0, 0, 0, 0]) 0 (wcs rv u pd)).toArray = y2 at r2 o2 ⊢
      have hS2 : Row y2 B 33 (wcs M L cs) ∧ Row y2 N 31 (rcs u pd) := ⟨hS1.1.only o2 AP.out.2, hS1.2.only o2 NNR.out⟩
      refine ⟨hS2, ?_⟩
      refine h_take 6 (.int .i64 0) rfl 5 rfl (by kernel_rfl) (by kernel_rfl) (by kernel_rfl) (by kernel_rfl) (fun _ _ _ h => h) (fun w' _ => by kernel_rfl) hS2 ?_
      simp only [Act.put, List.setIfInBounds_toArray, List.set_cons_zero, List.set_cons_succ]
      refine wpAnyH_done (by kernel_rfl) ?_ _
      go_wp2_with fail
      refine bodyPost_ret (v := .tuple #[.agg (wcs rv u pd).toArray, .int .i64 0]) (result_row2 (p := 4) (u := 5) (ty := 33) (t := 33) (by kernel_rfl) _ y2 R _ _ rfl rfl (r2) (sz_rwin HPD.out)) rfl ⟨rfl, below_only bel2 o2 AP.out.1 bel2.size⟩
  · obtain ⟨e1, e2, e3, e4, e5⟩ := put_no hok
    have e6 : putM M L cs s = 0 := if_neg hok
    rw [e1, e2] at CPUT
    rw [e1, e2, e6]
    have hne : (putE L cs (s / 3) != (0 : Int)) = true := bne_iff_ne.2 e3
    clear hok e1 e2 e3 e4 e5 e6 CREL HPD
    generalize putE L cs (s / 3) = pe at CPUT hne ⊢
    generalize s / 3 = u at CSUB CPUT hub ⊢
    go_enter Try.func13, Try.ntmps13
    go_wp2_with (first
      | ((with_reducible refine at_slot 2 ?_); (refine arm_box (o := ⟨some 2, _, _, _, _, _⟩) rfl _ _ rfl (wcs M L cs) rfl ?_); intro B wa Be hwa nwa)
      | ((with_reducible refine at_slot 4 ?_); (refine arm_alloc (o := ⟨some 4, _, _, _, _, _⟩) rfl _ rfl (wcs 0 0 [0, 0, 0, 0]) z_rwin ?_); intro R wb Re hwb nwb))
    have eB := Be.out; have eR := Re.out; have za := nwa.size; have zb := nwb.size
    have bel : Below w.heap.size w wb := below_step nwa.below (by omega) nwb.below
    have rB := hwa.old nwb.below
    have AP : Hid (w.heap.size ≤ R ∧ B ≠ R) := ⟨by omega, by omega⟩
    have rR := hwb
    clear eB eR za zb Be Re hwa hwb nwa nwb
    clear wa
    go_cut [6, 7] (fun nn ee wx => ∃ N : Nat, nn = .pointer (some ⟨N, 0, none⟩) ∧ ee = .int .i64 pe ∧ Row wx N 31 (rcs 0 [0, 0, 0, 0]) ∧ Below wb.heap.size wb wx ∧ wb.heap.size ≤ N)
    case first =>
      obtain ⟨Z, hZ⟩ : ∃ Z, Z = wb.heap.size := ⟨_, rfl⟩
      refine wp_region_held (S := fun w' => Below Z wb.drew w') (by kernel_rfl) ?_
      change wpAnyH _ _ _ _ _ _ _ _ wb.drew
      have rz : Row wb.drew B 33 (wcs M L cs) := rB
      have rl : B < Z := by have := rB.lt; omega
      have belz : Below wb.heap.size wb wb.drew := (Below.refl _ _).drew
      have hS : Below Z wb.drew wb.drew := Below.refl _ _
      have ez : wb.drew.heap.size = wb.heap.size := rfl
      have ZL : Hid (Z ≤ wb.drew.heap.size) := Lib.hid (by omega)
      have ZW := Lib.hid hZ
      generalize wb.drew = wz at rz belz hS ZL ⊢
      clear hZ ez
      refine h_take 0 (.pointer (some ⟨B, 1, none⟩)) rfl 9 rfl (by kernel_rfl) (by kernel_rfl) (by kernel_rfl) (by kernel_rfl) (fun _ _ _ h => h) (fun w' _ => by kernel_rfl) hS ?_
      simp only [Act.put, List.setIfInBounds_toArray, List.set_cons_zero, List.set_cons_succ]
      refine h_take 1 (.agg (rcs L cs).toArray) rfl 10 rfl (by kernel_rfl) (by kernel_rfl) (by kernel_rfl) (by kernel_rfl) (fun _ _ _ h => h) (fun w' hC => run_op_load _ _ rfl B 1 rfl (rcs L cs) (row_ring (rz.below hC rl)) (sz_rref' HL.out)) hS ?_
      simp only [Act.put, List.setIfInBounds_toArray, List.set_cons_zero, List.set_cons_succ]
      refine h_take 2 (.int .u32 (s : Int)) rfl 11 rfl (by kernel_rfl) (by kernel_rfl) (by kernel_rfl) (by kernel_rfl) (fun _ _ _ h => h) (fun w' _ => by kernel_rfl) hS ?_
      simp only [Act.put, List.setIfInBounds_toArray, List.set_cons_zero, List.set_cons_succ]
      refine h_two (i := 3) (j := 8) (by kernel_rfl) ?_ ?_
      · skip
        refine (o_call rfl 12 rfl (by kernel_rfl) (run_op_call 17 _ _ rfl #[.int .u32 (s : Int)] (by simp only [List.map_toArray, List.map_cons, List.map_nil]; rfl) Try.func17 (by kernel_rfl) (by kernel_rfl) _) (CSUB _).out ?_)
        rintro e y0 ⟨rfl, hB⟩
        have hS0 : Below Z wz y0 := below_step hS (Nat.le_trans ZL.out hS.size) hB
        refine ⟨_, rfl, hS0, ?_⟩
        clear hB
        simp only [Act.put, List.setIfInBounds_toArray, List.set_cons_zero, List.set_cons_succ]
        refine h_two (i := 4) (j := 8) (by kernel_rfl) ?_ ?_
        · skip
          refine (o_call rfl 13 rfl (by kernel_rfl) (run_op_call 26 _ _ rfl #[.agg (rcs L cs).toArray, .int .u32 (u : Int)] (by simp only [List.map_toArray, List.map_cons, List.map_nil]; rfl) Try.func26 (by kernel_rfl) (by kernel_rfl) _) (CPUT _).out ?_)
          rintro e y1 ⟨rfl, hB⟩
          have hS1 : Below Z wz y1 := below_step hS0 (Nat.le_trans ZL.out hS0.size) hB
          refine ⟨_, rfl, hS1, ?_⟩
          clear hB
          simp only [Act.put, List.setIfInBounds_toArray, List.set_cons_zero, List.set_cons_succ]
          refine h_take 5 (.tuple #[.agg (rcs 0 [0, 0, 0, 0]).toArray, .int .i64 pe]) rfl 8 rfl (by kernel_rfl) (by kernel_rfl) (by kernel_rfl) (by kernel_rfl) (fun _ _ _ h => h) (fun w' _ => by kernel_rfl) hS1 ?_
          simp only [Act.put, List.setIfInBounds_toArray, List.set_cons_zero, List.set_cons_succ]
          refine h_take 6 (.agg (rcs 0 [0, 0, 0, 0]).toArray) rfl 14 rfl (by kernel_rfl) (by kernel_rfl) (by kernel_rfl) (by kernel_rfl) (fun _ _ _ h => h) (fun w' _ => by kernel_rfl) hS1 ?_
          simp only [Act.put, List.setIfInBounds_toArray, List.set_cons_zero, List.set_cons_succ]
          refine h_take 7 (.int .i64 pe) rfl 15 rfl (by kernel_rfl) (by kernel_rfl) (by kernel_rfl) (by kernel_rfl) (fun _ _ _ h => h) (fun w' _ => by kernel_rfl) hS1 ?_
          simp only [Act.put, List.setIfInBounds_toArray, List.set_cons_zero, List.set_cons_succ]
          refine h_one (i := 8) (by kernel_rfl) (o_value _ rfl 6 rfl (by kernel_rfl) (run_op_alloc _ rfl (rcs 0 [0, 0, 0, 0]) z_rref) ?_)
          have hN := new_alloc y1 (.cells (rcs 0 [0, 0, 0, 0]).toArray 31)
          have rN2 : Row (y1.alloc (.cells (rcs 0 [0, 0, 0, 0]).toArray 31)) y1.heap.size 31 (rcs 0 [0, 0, 0, 0]) := heap_alloc_new _ _
          have lN : Z ≤ y1.heap.size := Nat.le_trans ZL.out hS1.size
          generalize y1.alloc (.cells (rcs 0 [0, 0, 0, 0]).toArray 31) = y2 at hN rN2 ⊢
          have hS2 : Below Z wz y2 := below_step hS1 (Nat.le_trans ZL.out hS1.size) hN.below
          clear hN
          refine ⟨hS2, ?_⟩
          generalize y1.heap.size = N at rN2 lN ⊢
          simp only [Act.put, List.setIfInBounds_toArray, List.set_cons_zero, List.set_cons_succ]
          refine h_one (i := 9) (by kernel_rfl) (o_skip rfl rfl (by kernel_rfl) (run_op_store _ _ _ rfl N 0 rfl (rcs 0 [0, 0, 0, 0]) rfl _ _ rN2 (fit5 rfl) (rcs_one _ _) (sz_rref' rfl)) ?_)
          have rNf := row_setRow rN2 (lay (rcs 0 [0, 0, 0, 0]) 0 (rcs 0 [0, 0, 0, 0]))
          have oNf := Only.setRow N y2 (lay (rcs 0 [0, 0, 0, 0]) 0 (rcs 0 [0, 0, 0, 0])).toArray
          generalize y2.setRow N (lay (rcs 0 [0, 0, 0, 0]) 0 (rcs 0 [0, 0, 0, 0])).toArray = yf at rNf oNf ⊢
          have hSf : Below Z wz yf := below_only hS2 oNf lN (Nat.le_trans ZL.out hS2.size)
          refine ⟨hSf, ?_⟩
          refine h_take 10 (.int .i64 pe) rfl 7 rfl (by kernel_rfl) (by kernel_rfl) (by kernel_rfl) (by kernel_rfl) (fun _ _ _ h => h) (fun w' _ => by kernel_rfl) hSf ?_
          simp only [Act.put, List.setIfInBounds_toArray, List.set_cons_zero, List.set_cons_succ]
          refine wpAnyH_done (by kernel_rfl) ?_ _
          go_wp2_with fail
          go_meet
          exact ⟨N, rfl, rfl, rNf.congr (lay_all _ _ (len5 rfl)), belz.trans (ZW.out ▸ hSf), ZW.out ▸ lN⟩
        · skip
          refine (o_value _ rfl 6 rfl (by kernel_rfl) (run_op_alloc _ rfl (rcs 0 [0, 0, 0, 0]) z_rref) ?_)
          have hN := new_alloc y0 (.cells (rcs 0 [0, 0, 0, 0]).toArray 31)
          have rN1 : Row (y0.alloc (.cells (rcs 0 [0, 0, 0, 0]).toArray 31)) y0.heap.size 31 (rcs 0 [0, 0, 0, 0]) := heap_alloc_new _ _
          have lN : Z ≤ y0.heap.size := Nat.le_trans ZL.out hS0.size
          generalize y0.alloc (.cells (rcs 0 [0, 0, 0, 0]).toArray 31) = y1 at hN rN1 ⊢
          have hS1 : Below Z wz y1 := below_step hS0 (Nat.le_trans ZL.out hS0.size) hN.below
          clear hN
          refine ⟨hS1, ?_⟩
          generalize y0.heap.size = N at rN1 lN ⊢
          simp only [Act.put, List.setIfInBounds_toArray, List.set_cons_zero, List.set_cons_succ]
          refine h_one (i := 4) (by kernel_rfl) (o_call rfl 13 rfl (by kernel_rfl) (run_op_call 26 _ _ rfl #[.agg (rcs L cs).toArray, .int .u32 (u : Int)] (by simp only [List.map_toArray, List.map_cons, List.map_nil]; rfl) Try.func26 (by kernel_rfl) (by kernel_rfl) _) (CPUT _).out ?_)
          rintro e y2 ⟨rfl, hB⟩
          have hS2 : Below Z wz y2 := below_step hS1 (Nat.le_trans ZL.out hS1.size) hB
          refine ⟨_, rfl, hS2, ?_⟩
          have rN2 := rN1.old hB
          clear hB
          simp only [Act.put, List.setIfInBounds_toArray, List.set_cons_zero, List.set_cons_succ]
          refine h_take 5 (.tuple #[.agg (rcs 0 [0, 0, 0, 0]).toArray, .int .i64 pe]) rfl 8 rfl (by kernel_rfl) (by kernel_rfl) (by kernel_rfl) (by kernel_rfl) (fun _ _ _ h => h) (fun w' _ => by kernel_rfl) hS2 ?_
          simp only [Act.put, List.setIfInBounds_toArray, List.set_cons_zero, List.set_cons_succ]
          refine h_take 6 (.agg (rcs 0 [0, 0, 0, 0]).toArray) rfl 14 rfl (by kernel_rfl) (by kernel_rfl) (by kernel_rfl) (by kernel_rfl) (fun _ _ _ h => h) (fun w' _ => by kernel_rfl) hS2 ?_
          simp only [Act.put, List.setIfInBounds_toArray, List.set_cons_zero, List.set_cons_succ]
          refine h_take 7 (.int .i64 pe) rfl 15 rfl (by kernel_rfl) (by kernel_rfl) (by kernel_rfl) (by kernel_rfl) (fun _ _ _ h => h) (fun w' _ => by kernel_rfl) hS2 ?_
          simp only [Act.put, List.setIfInBounds_toArray, List.set_cons_zero, List.set_cons_succ]
          refine h_one (i := 9) (by kernel_rfl) (o_skip rfl rfl (by kernel_rfl) (run_op_store _ _ _ rfl N 0 rfl (rcs 0 [0, 0, 0, 0]) rfl _ _ rN2 (fit5 rfl) (rcs_one _ _) (sz_rref' rfl)) ?_)
          have rNf := row_setRow rN2 (lay (rcs 0 [0, 0, 0, 0]) 0 (rcs 0 [0, 0, 0, 0]))
          have oNf := Only.setRow N y2 (lay (rcs 0 [0, 0, 0, 0]) 0 (rcs 0 [0, 0, 0, 0])).toArray
          generalize y2.setRow N (lay (rcs 0 [0, 0, 0, 0]) 0 (rcs 0 [0, 0, 0, 0])).toArray = yf at rNf oNf ⊢
          have hSf : Below Z wz yf := below_only hS2 oNf lN (Nat.le_trans ZL.out hS2.size)
          refine ⟨hSf, ?_⟩
          refine h_take 10 (.int .i64 pe) rfl 7 rfl (by kernel_rfl) (by kernel_rfl) (by kernel_rfl) (by kernel_rfl) (fun _ _ _ h => h) (fun w' _ => by kernel_rfl) hSf ?_
          simp only [Act.put, List.setIfInBounds_toArray, List.set_cons_zero, List.set_cons_succ]
          refine wpAnyH_done (by kernel_rfl) ?_ _
          go_wp2_with fail
          go_meet
          exact ⟨N, rfl, rfl, rNf.congr (lay_all _ _ (len5 rfl)), belz.trans (ZW.out ▸ hSf), ZW.out ▸ lN⟩
      · skip
        refine (o_value _ rfl 6 rfl (by kernel_rfl) (run_op_alloc _ rfl (rcs 0 [0, 0, 0, 0]) z_rref) ?_)
        have hN := new_alloc wz (.cells (rcs 0 [0, 0, 0, 0]).toArray 31)
        have rN1 : Row (wz.alloc (.cells (rcs 0 [0, 0, 0, 0]).toArray 31)) wz.heap.size 31 (rcs 0 [0, 0, 0, 0]) := heap_alloc_new _ _
        have lN : Z ≤ wz.heap.size := Nat.le_trans ZL.out hS.size
        generalize wz.alloc (.cells (rcs 0 [0, 0, 0, 0]).toArray 31) = y1 at hN rN1 ⊢
        have hS1 : Below Z wz y1 := below_step hS (Nat.le_trans ZL.out hS.size) hN.below
        clear hN
        refine ⟨hS1, ?_⟩
        generalize wz.heap.size = N at rN1 lN ⊢
        simp only [Act.put, List.setIfInBounds_toArray, List.set_cons_zero, List.set_cons_succ]
        refine h_one (i := 3) (by kernel_rfl) (o_call rfl 12 rfl (by kernel_rfl) (run_op_call 17 _ _ rfl #[.int .u32 (s : Int)] (by simp only [List.map_toArray, List.map_cons, List.map_nil]; rfl) Try.func17 (by kernel_rfl) (by kernel_rfl) _) (CSUB _).out ?_)
        rintro e y2 ⟨rfl, hB⟩
        have hS2 : Below Z wz y2 := below_step hS1 (Nat.le_trans ZL.out hS1.size) hB
        refine ⟨_, rfl, hS2, ?_⟩
        have rN2 := rN1.old hB
        clear hB
        simp only [Act.put, List.setIfInBounds_toArray, List.set_cons_zero, List.set_cons_succ]
        refine h_one (i := 4) (by kernel_rfl) (o_call rfl 13 rfl (by kernel_rfl) (run_op_call 26 _ _ rfl #[.agg (rcs L cs).toArray, .int .u32 (u : Int)] (by simp only [List.map_toArray, List.map_cons, List.map_nil]; rfl) Try.func26 (by kernel_rfl) (by kernel_rfl) _) (CPUT _).out ?_)
        rintro e y3 ⟨rfl, hB⟩
        have hS3 : Below Z wz y3 := below_step hS2 (Nat.le_trans ZL.out hS2.size) hB
        refine ⟨_, rfl, hS3, ?_⟩
        have rN3 := rN2.old hB
        clear hB
        simp only [Act.put, List.setIfInBounds_toArray, List.set_cons_zero, List.set_cons_succ]
        refine h_take 5 (.tuple #[.agg (rcs 0 [0, 0, 0, 0]).toArray, .int .i64 pe]) rfl 8 rfl (by kernel_rfl) (by kernel_rfl) (by kernel_rfl) (by kernel_rfl) (fun _ _ _ h => h) (fun w' _ => by kernel_rfl) hS3 ?_
        simp only [Act.put, List.setIfInBounds_toArray, List.set_cons_zero, List.set_cons_succ]
        refine h_take 6 (.agg (rcs 0 [0, 0, 0, 0]).toArray) rfl 14 rfl (by kernel_rfl) (by kernel_rfl) (by kernel_rfl) (by kernel_rfl) (fun _ _ _ h => h) (fun w' _ => by kernel_rfl) hS3 ?_
        simp only [Act.put, List.setIfInBounds_toArray, List.set_cons_zero, List.set_cons_succ]
        refine h_take 7 (.int .i64 pe) rfl 15 rfl (by kernel_rfl) (by kernel_rfl) (by kernel_rfl) (by kernel_rfl) (fun _ _ _ h => h) (fun w' _ => by kernel_rfl) hS3 ?_
        simp only [Act.put, List.setIfInBounds_toArray, List.set_cons_zero, List.set_cons_succ]
        refine h_one (i := 9) (by kernel_rfl) (o_skip rfl rfl (by kernel_rfl) (run_op_store _ _ _ rfl N 0 rfl (rcs 0 [0, 0, 0, 0]) rfl _ _ rN3 (fit5 rfl) (rcs_one _ _) (sz_rref' rfl)) ?_)
        have rNf := row_setRow rN3 (lay (rcs 0 [0, 0, 0, 0]) 0 (rcs 0 [0, 0, 0, 0]))
        have oNf := Only.setRow N y3 (lay (rcs 0 [0, 0, 0, 0]) 0 (rcs 0 [0, 0, 0, 0])).toArray
        generalize y3.setRow N (lay (rcs 0 [0, 0, 0, 0]) 0 (rcs 0 [0, 0, 0, 0])).toArray = yf at rNf oNf ⊢
        have hSf : Below Z wz yf := below_only hS3 oNf lN (Nat.le_trans ZL.out hS3.size)
        refine ⟨hSf, ?_⟩
        refine h_take 10 (.int .i64 pe) rfl 7 rfl (by kernel_rfl) (by kernel_rfl) (by kernel_rfl) (by kernel_rfl) (fun _ _ _ h => h) (fun w' _ => by kernel_rfl) hSf ?_
        simp only [Act.put, List.setIfInBounds_toArray, List.set_cons_zero, List.set_cons_succ]
        refine wpAnyH_done (by kernel_rfl) ?_ _
        go_wp2_with fail
        go_meet
        exact ⟨N, rfl, rfl, rNf.congr (lay_all _ _ (len5 rfl)), belz.trans (ZW.out ▸ hSf), ZW.out ▸ lN⟩
    case rest =>
      obtain ⟨N, rfl, rfl, rN, hbx, lN⟩ := hcut
      have bel1 := bel.trans (hbx.mono bel.size)
      have rB1 := rB.old hbx
      have rR1 := rR.old hbx
      have nNR : N ≠ R := by have := rR.lt; omega
      have NNR := Lib.hid nNR
      clear bel rB rR hbx lN nNR CPUT CSUB
      clear wb
      go_wp2_with (first
        | ((with_reducible refine at_slot 18 ?_); (refine arm_build (o := ⟨some 18, _, _, _, _, _⟩) rfl _ _ rfl (wcs 0 0 [0, 0, 0, 0]) (by kernel_rfl) ?_))
        | ((with_reducible refine arm_store (o := ⟨none, _, _, _, _, _⟩) rfl _ _ _ rfl R 0 rfl (wcs 0 0 [0, 0, 0, 0]) rfl _ _ (rR1) (fit6 rfl) (wcs_one _ _ _) (sz_rwin rfl) ?_); intro wi hwi owi swi))
      refine bodyPost_ret (v := .tuple #[.agg (wcs 0 0 [0, 0, 0, 0]).toArray, .int .i64 pe]) (result_row2 (p := 4) (u := 5) (ty := 33) (t := 33) (by kernel_rfl) _ wi R _ _ rfl rfl (hwi.congr (lay_all _ _ (len6 rfl))) (sz_rwin rfl)) rfl ⟨rfl, below_only bel1 owi AP.out.1 bel1.size⟩
end Go.Proofs.Ytbbmjjphkmjnbaa.Wn
