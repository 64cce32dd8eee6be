/-
  The contract of what puts a block into the ring that it embeds. Over this seat's translation.
-/
import Derived.Test.YtbbmjjphkmjnbaaWinLeaf
import Derived.Deep.DeepCutAuto
namespace Go.Proofs.Ytbbmjjphkmjnbaa.Wn
open Go.ChangeShapes Go.WideShapes Go.ChangeAt Go.RowKit Go.Proofs.Ytbbmjjphkmjnbaa.Mem Go.Proofs.Ytbbmjjphkmjnbaa.Bt Go.Proofs.Ytbbmjjphkmjnbaa.Rg
set_option linter.unusedVariables false
set_option linter.unusedSimpArgs false

/-- The ring that is there behind a block, or the ring as it was. -/
def aftL (L : Nat) (cs : List Nat) (u : Nat) : Nat := if L ≤ u ∧ atG L cs u < 3 then u else L
def aftC (L : Nat) (cs : List Nat) (u : Nat) : List Nat := if L ≤ u ∧ atG L cs u < 3 then putd L cs u else cs
theorem put_yes {L u : Nat} {cs : List Nat} (h : L ≤ u ∧ atG L cs u < 3) : putL L cs u = u ∧ putC L cs u = putd L cs u ∧ putE L cs u = 0 ∧ aftL L cs u = u ∧ aftC L cs u = putd L cs u := by
  unfold putL putC putE aftL aftC
  refine ⟨if_pos h, if_pos h, ?_, if_pos h, if_pos h⟩
  rw [if_neg (by omega), if_pos h.2]
theorem put_no {L u : Nat} {cs : List Nat} (h : ¬ (L ≤ u ∧ atG L cs u < 3)) : putL L cs u = 0 ∧ putC L cs u = [0, 0, 0, 0] ∧ putE L cs u ≠ 0 ∧ aftL L cs u = L ∧ aftC L cs u = cs := by
  unfold putL putC putE aftL aftC
  refine ⟨if_neg h, if_neg h, ?_, if_neg h, if_neg h⟩
  split
  · omega
  · rw [if_neg (fun h3 => h ⟨by omega, h3⟩)]; omega
set_option maxHeartbeats 4000000 in
set_option maxRecDepth 100000 in
theorem pput_any (P L s : Nat) (cs : List Nat) (w : World) (hr : Row w P 57 (pcs L cs s)) (hs : s < 4294967296) (hS : Small cs) (hl : cs.length = 4) :
    Calls Try.prog 23 #[.pointer (some ⟨P, 0, none⟩)] w fun e w' => e = .returned (.int .i64 (putE L cs (s / 3))) ∧ Row w' P 57 (pcs (aftL L cs (s / 3)) (aftC L cs (s / 3)) s) ∧ Only P w w' := by
  have HL := Lib.hid hl
  have HSS := Lib.hid hS
  have hub : s / 3 < 4294967296 := by omega
  have CSUB := fun w0 => Lib.hid (subB_any s w0 hs)
  have CPUT := fun w0 => Lib.hid (put_any L (s / 3) cs w0 hub hS hl)
  have HPL := Lib.hid (putC_len L cs (s / 3))
  have HYE := Lib.hid (fun h => put_yes (L := L) (u := s / 3) (cs := cs) h)
  have HNO := Lib.hid (fun h => put_no (L := L) (u := s / 3) (cs := cs) h)
  have HPD := Lib.hid (putd_len L cs (s / 3))
  clear hl hS
  by_cases hok : L ≤ s / 3 ∧ atG L cs ((s / 3 : Nat) : Int) < 3
  · obtain ⟨e1, e2, e3, e4, e5⟩ := HYE.out hok
    rw [e1, e2, e3] at CPUT
    rw [e3, e4, e5]
    clear hok e1 e2 e3 e4 e5 HYE HNO HPL
    generalize putd L cs (s / 3) = pd at CPUT HPD ⊢
    generalize s / 3 = u at CSUB CPUT hub ⊢
    go_enter Try.func23, Try.ntmps23
    go_wp2_with fail
    go_cut [3, 4] (fun nn ee wx => ∃ N : Nat, nn = .pointer (some ⟨N, 0, none⟩) ∧ ee = .int .i64 0 ∧ Row wx N 25 (rcs u pd) ∧ Below w.heap.size w wx ∧ w.heap.size ≤ N)
    case first =>
      obtain ⟨Z, hZ⟩ : ∃ Z, Z = w.heap.size := ⟨_, rfl⟩
      refine wp_region_held (S := fun w' => Below Z w.drew w') (by kernel_rfl) ?_
      change wpAnyH _ _ _ _ _ _ _ _ w.drew
      have rz : Row w.drew P 57 (pcs L cs s) := hr
      have rl : P < Z := by have := hr.lt; omega
      have belz : Below w.heap.size w w.drew := (Below.refl _ _).drew
      have hS : Below Z w.drew w.drew := Below.refl _ _
      have ez : w.drew.heap.size = w.heap.size := rfl
      have ZL : Hid (Z ≤ w.drew.heap.size) := Lib.hid (by omega)
      have ZW := Lib.hid hZ
      generalize w.drew = wz at rz belz hS ZL ⊢
      clear hZ ez
      refine h_take 0 (.pointer (some ⟨P, 0, none⟩)) rfl 6 rfl (by kernel_rfl) (by kernel_rfl) (by kernel_rfl) (by kernel_rfl) (fun _ _ _ h => h) (fun w' _ => by kernel_rfl) hS ?_
      simp only [Act.put, List.setIfInBounds_toArray, List.set_cons_zero, List.set_cons_succ]
      refine h_take 1 (.pointer (some ⟨P, 0, none⟩)) rfl 7 rfl (by kernel_rfl) (by kernel_rfl) (by kernel_rfl) (by kernel_rfl) (fun _ _ _ h => h) (fun w' _ => by kernel_rfl) hS ?_
      simp only [Act.put, List.setIfInBounds_toArray, List.set_cons_zero, List.set_cons_succ]
      refine h_take 2 (.pointer (some ⟨P, 0, none⟩)) rfl 8 rfl (by kernel_rfl) (by kernel_rfl) (by kernel_rfl) (by kernel_rfl) (fun _ _ _ h => h) (fun w' _ => by kernel_rfl) hS ?_
      simp only [Act.put, List.setIfInBounds_toArray, List.set_cons_zero, List.set_cons_succ]
      refine h_take 3 (.agg (rcs L cs).toArray) rfl 9 rfl (by kernel_rfl) (by kernel_rfl) (by kernel_rfl) (by kernel_rfl) (fun _ _ _ h => h) (fun w' hC => run_op_load _ _ rfl P 0 rfl (rcs L cs) (prow_ring (rz.below hC rl)) (sz_ring' HL.out)) hS ?_
      simp only [Act.put, List.setIfInBounds_toArray, List.set_cons_zero, List.set_cons_succ]
      refine h_take 4 (.pointer (some ⟨P, 0, none⟩)) rfl 10 rfl (by kernel_rfl) (by kernel_rfl) (by kernel_rfl) (by kernel_rfl) (fun _ _ _ h => h) (fun w' _ => by kernel_rfl) hS ?_
      simp only [Act.put, List.setIfInBounds_toArray, List.set_cons_zero, List.set_cons_succ]
      refine h_take 5 (.pointer (some ⟨P, 0, none⟩)) rfl 11 rfl (by kernel_rfl) (by kernel_rfl) (by kernel_rfl) (by kernel_rfl) (fun _ _ _ h => h) (fun w' _ => by kernel_rfl) hS ?_
      simp only [Act.put, List.setIfInBounds_toArray, List.set_cons_zero, List.set_cons_succ]
      refine h_take 6 (.pointer (some ⟨P, 5, none⟩)) rfl 12 rfl (by kernel_rfl) (by kernel_rfl) (by kernel_rfl) (by kernel_rfl) (fun _ _ _ h => h) (fun w' _ => by kernel_rfl) hS ?_
      simp only [Act.put, List.setIfInBounds_toArray, List.set_cons_zero, List.set_cons_succ]
      refine h_take 7 (.int .u32 (s : Int)) rfl 13 rfl (by kernel_rfl) (by kernel_rfl) (by kernel_rfl) (by kernel_rfl) (fun _ _ _ h => h) (fun w' hC => run_op_load32 _ rfl _ rfl _ ((rz.below hC rl).cell (pcs_getS HL.out))) hS ?_
      simp only [Act.put, List.setIfInBounds_toArray, List.set_cons_zero, List.set_cons_succ]
      refine h_two (i := 8) (j := 13) (by kernel_rfl) ?_ ?_
      · skip
        refine (o_call rfl 14 rfl (by kernel_rfl) (run_op_call 31 _ _ rfl #[.int .u32 (s : Int)] (by simp only [List.map_toArray, List.map_cons, List.map_nil]; rfl) Try.func31 (by kernel_rfl) (by kernel_rfl) _) (CSUB _).out ?_)
        rintro e y0 ⟨rfl, hB⟩
        have hS0 : Below Z wz y0 := below_step hS (Nat.le_trans ZL.out hS.size) hB
        refine ⟨_, rfl, hS0, ?_⟩
        clear hB
        simp only [Act.put, List.setIfInBounds_toArray, List.set_cons_zero, List.set_cons_succ]
        refine h_two (i := 9) (j := 13) (by kernel_rfl) ?_ ?_
        · skip
          refine (o_call rfl 15 rfl (by kernel_rfl) (run_op_call 30 _ _ rfl #[.agg (rcs L cs).toArray, .int .u32 (u : Int)] (by simp only [List.map_toArray, List.map_cons, List.map_nil]; rfl) Try.func30 (by kernel_rfl) (by kernel_rfl) _) (CPUT _).out ?_)
          rintro e y1 ⟨rfl, hB⟩
          have hS1 : Below Z wz y1 := below_step hS0 (Nat.le_trans ZL.out hS0.size) hB
          refine ⟨_, rfl, hS1, ?_⟩
          clear hB
          simp only [Act.put, List.setIfInBounds_toArray, List.set_cons_zero, List.set_cons_succ]
          refine h_take 10 (.tuple #[.agg (rcs u pd).toArray, .int .i64 0]) rfl 5 rfl (by kernel_rfl) (by kernel_rfl) (by kernel_rfl) (by kernel_rfl) (fun _ _ _ h => h) (fun w' _ => by kernel_rfl) hS1 ?_
          simp only [Act.put, List.setIfInBounds_toArray, List.set_cons_zero, List.set_cons_succ]
          refine h_take 11 (.agg (rcs u pd).toArray) rfl 16 rfl (by kernel_rfl) (by kernel_rfl) (by kernel_rfl) (by kernel_rfl) (fun _ _ _ h => h) (fun w' _ => by kernel_rfl) hS1 ?_
          simp only [Act.put, List.setIfInBounds_toArray, List.set_cons_zero, List.set_cons_succ]
          refine h_take 12 (.int .i64 0) rfl 17 rfl (by kernel_rfl) (by kernel_rfl) (by kernel_rfl) (by kernel_rfl) (fun _ _ _ h => h) (fun w' _ => by kernel_rfl) hS1 ?_
          simp only [Act.put, List.setIfInBounds_toArray, List.set_cons_zero, List.set_cons_succ]
          refine h_one (i := 13) (by kernel_rfl) (o_value _ rfl 3 rfl (by kernel_rfl) (run_op_alloc _ rfl (rcs 0 [0, 0, 0, 0]) z_ring) ?_)
          have hN := new_alloc y1 (.cells (rcs 0 [0, 0, 0, 0]).toArray 25)
          have rN2 : Row (y1.alloc (.cells (rcs 0 [0, 0, 0, 0]).toArray 25)) y1.heap.size 25 (rcs 0 [0, 0, 0, 0]) := heap_alloc_new _ _
          have lN : Z ≤ y1.heap.size := Nat.le_trans ZL.out hS1.size
          generalize y1.alloc (.cells (rcs 0 [0, 0, 0, 0]).toArray 25) = y2 at hN rN2 ⊢
          have hS2 : Below Z wz y2 := below_step hS1 (Nat.le_trans ZL.out hS1.size) hN.below
          clear hN
          refine ⟨hS2, ?_⟩
          generalize y1.heap.size = N at rN2 lN ⊢
          simp only [Act.put, List.setIfInBounds_toArray, List.set_cons_zero, List.set_cons_succ]
          refine h_one (i := 14) (by kernel_rfl) (o_skip rfl rfl (by kernel_rfl) (run_op_store _ _ _ rfl N 0 rfl (rcs u pd) rfl _ _ rN2 (fit5 HPD.out) (rcs_one _ _) (sz_ring' HPD.out)) ?_)
          have rNf := row_setRow rN2 (lay (rcs 0 [0, 0, 0, 0]) 0 (rcs u pd))
          have oNf := Only.setRow N y2 (lay (rcs 0 [0, 0, 0, 0]) 0 (rcs u pd)).toArray
          generalize y2.setRow N (lay (rcs 0 [0, 0, 0, 0]) 0 (rcs u pd)).toArray = yf at rNf oNf ⊢
          have hSf : Below Z wz yf := below_only hS2 oNf lN (Nat.le_trans ZL.out hS2.size)
          refine ⟨hSf, ?_⟩
          refine h_take 15 (.int .i64 0) rfl 4 rfl (by kernel_rfl) (by kernel_rfl) (by kernel_rfl) (by kernel_rfl) (fun _ _ _ h => h) (fun w' _ => by kernel_rfl) hSf ?_
          simp only [Act.put, List.setIfInBounds_toArray, List.set_cons_zero, List.set_cons_succ]
          refine wpAnyH_done (by kernel_rfl) ?_ _
          go_wp2_with fail
          go_meet
          exact ⟨N, rfl, rfl, rNf.congr (lay_all _ _ (len5 HPD.out)), belz.trans (ZW.out ▸ hSf), ZW.out ▸ lN⟩
        · skip
          refine (o_value _ rfl 3 rfl (by kernel_rfl) (run_op_alloc _ rfl (rcs 0 [0, 0, 0, 0]) z_ring) ?_)
          have hN := new_alloc y0 (.cells (rcs 0 [0, 0, 0, 0]).toArray 25)
          have rN1 : Row (y0.alloc (.cells (rcs 0 [0, 0, 0, 0]).toArray 25)) y0.heap.size 25 (rcs 0 [0, 0, 0, 0]) := heap_alloc_new _ _
          have lN : Z ≤ y0.heap.size := Nat.le_trans ZL.out hS0.size
          generalize y0.alloc (.cells (rcs 0 [0, 0, 0, 0]).toArray 25) = y1 at hN rN1 ⊢
          have hS1 : Below Z wz y1 := below_step hS0 (Nat.le_trans ZL.out hS0.size) hN.below
          clear hN
          refine ⟨hS1, ?_⟩
          generalize y0.heap.size = N at rN1 lN ⊢
          simp only [Act.put, List.setIfInBounds_toArray, List.set_cons_zero, List.set_cons_succ]
          refine h_one (i := 9) (by kernel_rfl) (o_call rfl 15 rfl (by kernel_rfl) (run_op_call 30 _ _ rfl #[.agg (rcs L cs).toArray, .int .u32 (u : Int)] (by simp only [List.map_toArray, List.map_cons, List.map_nil]; rfl) Try.func30 (by kernel_rfl) (by kernel_rfl) _) (CPUT _).out ?_)
          rintro e y2 ⟨rfl, hB⟩
          have hS2 : Below Z wz y2 := below_step hS1 (Nat.le_trans ZL.out hS1.size) hB
          refine ⟨_, rfl, hS2, ?_⟩
          have rN2 := rN1.old hB
          clear hB
          simp only [Act.put, List.setIfInBounds_toArray, List.set_cons_zero, List.set_cons_succ]
          refine h_take 10 (.tuple #[.agg (rcs u pd).toArray, .int .i64 0]) rfl 5 rfl (by kernel_rfl) (by kernel_rfl) (by kernel_rfl) (by kernel_rfl) (fun _ _ _ h => h) (fun w' _ => by kernel_rfl) hS2 ?_
          simp only [Act.put, List.setIfInBounds_toArray, List.set_cons_zero, List.set_cons_succ]
          refine h_take 11 (.agg (rcs u pd).toArray) rfl 16 rfl (by kernel_rfl) (by kernel_rfl) (by kernel_rfl) (by kernel_rfl) (fun _ _ _ h => h) (fun w' _ => by kernel_rfl) hS2 ?_
          simp only [Act.put, List.setIfInBounds_toArray, List.set_cons_zero, List.set_cons_succ]
          refine h_take 12 (.int .i64 0) rfl 17 rfl (by kernel_rfl) (by kernel_rfl) (by kernel_rfl) (by kernel_rfl) (fun _ _ _ h => h) (fun w' _ => by kernel_rfl) hS2 ?_
          simp only [Act.put, List.setIfInBounds_toArray, List.set_cons_zero, List.set_cons_succ]
          refine h_one (i := 14) (by kernel_rfl) (o_skip rfl rfl (by kernel_rfl) (run_op_store _ _ _ rfl N 0 rfl (rcs u pd) rfl _ _ rN2 (fit5 HPD.out) (rcs_one _ _) (sz_ring' HPD.out)) ?_)
          have rNf := row_setRow rN2 (lay (rcs 0 [0, 0, 0, 0]) 0 (rcs u pd))
          have oNf := Only.setRow N y2 (lay (rcs 0 [0, 0, 0, 0]) 0 (rcs u pd)).toArray
          generalize y2.setRow N (lay (rcs 0 [0, 0, 0, 0]) 0 (rcs u pd)).toArray = yf at rNf oNf ⊢
          have hSf : Below Z wz yf := below_only hS2 oNf lN (Nat.le_trans ZL.out hS2.size)
          refine ⟨hSf, ?_⟩
          refine h_take 15 (.int .i64 0) rfl 4 rfl (by kernel_rfl) (by kernel_rfl) (by kernel_rfl) (by kernel_rfl) (fun _ _ _ h => h) (fun w' _ => by kernel_rfl) hSf ?_
          simp only [Act.put, List.setIfInBounds_toArray, List.set_cons_zero, List.set_cons_succ]
          refine wpAnyH_done (by kernel_rfl) ?_ _
          go_wp2_with fail
          go_meet
          exact ⟨N, rfl, rfl, rNf.congr (lay_all _ _ (len5 HPD.out)), belz.trans (ZW.out ▸ hSf), ZW.out ▸ lN⟩
      · skip
        refine (o_value _ rfl 3 rfl (by kernel_rfl) (run_op_alloc _ rfl (rcs 0 [0, 0, 0, 0]) z_ring) ?_)
        have hN := new_alloc wz (.cells (rcs 0 [0, 0, 0, 0]).toArray 25)
        have rN1 : Row (wz.alloc (.cells (rcs 0 [0, 0, 0, 0]).toArray 25)) wz.heap.size 25 (rcs 0 [0, 0, 0, 0]) := heap_alloc_new _ _
        have lN : Z ≤ wz.heap.size := Nat.le_trans ZL.out hS.size
        generalize wz.alloc (.cells (rcs 0 [0, 0, 0, 0]).toArray 25) = y1 at hN rN1 ⊢
        have hS1 : Below Z wz y1 := below_step hS (Nat.le_trans ZL.out hS.size) hN.below
        clear hN
        refine ⟨hS1, ?_⟩
        generalize wz.heap.size = N at rN1 lN ⊢
        simp only [Act.put, List.setIfInBounds_toArray, List.set_cons_zero, List.set_cons_succ]
        refine h_one (i := 8) (by kernel_rfl) (o_call rfl 14 rfl (by kernel_rfl) (run_op_call 31 _ _ rfl #[.int .u32 (s : Int)] (by simp only [List.map_toArray, List.map_cons, List.map_nil]; rfl) Try.func31 (by kernel_rfl) (by kernel_rfl) _) (CSUB _).out ?_)
        rintro e y2 ⟨rfl, hB⟩
        have hS2 : Below Z wz y2 := below_step hS1 (Nat.le_trans ZL.out hS1.size) hB
        refine ⟨_, rfl, hS2, ?_⟩
        have rN2 := rN1.old hB
        clear hB
        simp only [Act.put, List.setIfInBounds_toArray, List.set_cons_zero, List.set_cons_succ]
        refine h_one (i := 9) (by kernel_rfl) (o_call rfl 15 rfl (by kernel_rfl) (run_op_call 30 _ _ rfl #[.agg (rcs L cs).toArray, .int .u32 (u : Int)] (by simp only [List.map_toArray, List.map_cons, List.map_nil]; rfl) Try.func30 (by kernel_rfl) (by kernel_rfl) _) (CPUT _).out ?_)
        rintro e y3 ⟨rfl, hB⟩
        have hS3 : Below Z wz y3 := below_step hS2 (Nat.le_trans ZL.out hS2.size) hB
        refine ⟨_, rfl, hS3, ?_⟩
        have rN3 := rN2.old hB
        clear hB
        simp only [Act.put, List.setIfInBounds_toArray, List.set_cons_zero, List.set_cons_succ]
        refine h_take 10 (.tuple #[.agg (rcs u pd).toArray, .int .i64 0]) rfl 5 rfl (by kernel_rfl) (by kernel_rfl) (by kernel_rfl) (by kernel_rfl) (fun _ _ _ h => h) (fun w' _ => by kernel_rfl) hS3 ?_
        simp only [Act.put, List.setIfInBounds_toArray, List.set_cons_zero, List.set_cons_succ]
        refine h_take 11 (.agg (rcs u pd).toArray) rfl 16 rfl (by kernel_rfl) (by kernel_rfl) (by kernel_rfl) (by kernel_rfl) (fun _ _ _ h => h) (fun w' _ => by kernel_rfl) hS3 ?_
        simp only [Act.put, List.setIfInBounds_toArray, List.set_cons_zero, List.set_cons_succ]
        refine h_take 12 (.int .i64 0) rfl 17 rfl (by kernel_rfl) (by kernel_rfl) (by kernel_rfl) (by kernel_rfl) (fun _ _ _ h => h) (fun w' _ => by kernel_rfl) hS3 ?_
        simp only [Act.put, List.setIfInBounds_toArray, List.set_cons_zero, List.set_cons_succ]
        refine h_one (i := 14) (by kernel_rfl) (o_skip rfl rfl (by kernel_rfl) (run_op_store _ _ _ rfl N 0 rfl (rcs u pd) rfl _ _ rN3 (fit5 HPD.out) (rcs_one _ _) (sz_ring' HPD.out)) ?_)
        have rNf := row_setRow rN3 (lay (rcs 0 [0, 0, 0, 0]) 0 (rcs u pd))
        have oNf := Only.setRow N y3 (lay (rcs 0 [0, 0, 0, 0]) 0 (rcs u pd)).toArray
        generalize y3.setRow N (lay (rcs 0 [0, 0, 0, 0]) 0 (rcs u pd)).toArray = yf at rNf oNf ⊢
        have hSf : Below Z wz yf := below_only hS3 oNf lN (Nat.le_trans ZL.out hS3.size)
        refine ⟨hSf, ?_⟩
        refine h_take 15 (.int .i64 0) rfl 4 rfl (by kernel_rfl) (by kernel_rfl) (by kernel_rfl) (by kernel_rfl) (fun _ _ _ h => h) (fun w' _ => by kernel_rfl) hSf ?_
        simp only [Act.put, List.setIfInBounds_toArray, List.set_cons_zero, List.set_cons_succ]
        refine wpAnyH_done (by kernel_rfl) ?_ _
        go_wp2_with fail
        go_meet
        exact ⟨N, rfl, rfl, rNf.congr (lay_all _ _ (len5 HPD.out)), belz.trans (ZW.out ▸ hSf), ZW.out ▸ lN⟩
    case rest =>
      obtain ⟨N, rfl, rfl, rN, hbx, lN⟩ := hcut
      have hr1 := hr.old hbx
      have nNP : N ≠ P := by have := hr.lt; omega
      have NNP := Lib.hid nNP
      have on1 := Only.of_below P hbx
      clear hr hbx lN nNP
      go_wp2_with (first
        | ((with_reducible refine at_slot 21 ?_); (refine arm_load (o := ⟨some 21, _, _, _, _, _⟩) rfl _ _ rfl N 0 rfl (rcs u pd) (row_all rN) (sz_ring' HPD.out) ?_))
        | ((with_reducible refine arm_store (o := ⟨none, _, _, _, _, _⟩) rfl _ _ _ rfl P 0 rfl (rcs u pd) rfl _ _ (hr1) (by rw [rcs_len HPD.out, pcs_len HL.out]; omega) (rcs_one _ _) (sz_ring' HPD.out) ?_); intro wd hwd owd swd))
      go_ret
      exact ⟨rfl, hwd.congr (pcs_lay HL.out HPD.out), on1.trans owd⟩
  · obtain ⟨e1, e2, e3, e4, e5⟩ := HNO.out hok
    rw [e1, e2] at CPUT
    rw [e4, e5]
    have hne : (putE L cs (s / 3) == (0 : Int)) = false := beq_eq_false_iff_ne.2 e3
    clear hok e1 e2 e3 e4 e5 HYE HNO HPL HPD
    generalize putE L cs (s / 3) = pe at CPUT hne ⊢
    generalize s / 3 = u at CSUB CPUT hub ⊢
    go_enter Try.func23, Try.ntmps23
    go_wp2_with fail
    go_cut [3, 4] (fun nn ee wx => ∃ N : Nat, nn = .pointer (some ⟨N, 0, none⟩) ∧ ee = .int .i64 pe ∧ Row wx N 25 (rcs 0 [0, 0, 0, 0]) ∧ Below w.heap.size w wx ∧ w.heap.size ≤ N)
    case first =>
      obtain ⟨Z, hZ⟩ : ∃ Z, Z = w.heap.size := ⟨_, rfl⟩
      refine wp_region_held (S := fun w' => Below Z w.drew w') (by kernel_rfl) ?_
      change wpAnyH _ _ _ _ _ _ _ _ w.drew
      have rz : Row w.drew P 57 (pcs L cs s) := hr
      have rl : P < Z := by have := hr.lt; omega
      have belz : Below w.heap.size w w.drew := (Below.refl _ _).drew
      have hS : Below Z w.drew w.drew := Below.refl _ _
      have ez : w.drew.heap.size = w.heap.size := rfl
      have ZL : Hid (Z ≤ w.drew.heap.size) := Lib.hid (by omega)
      have ZW := Lib.hid hZ
      generalize w.drew = wz at rz belz hS ZL ⊢
      clear hZ ez
      refine h_take 0 (.pointer (some ⟨P, 0, none⟩)) rfl 6 rfl (by kernel_rfl) (by kernel_rfl) (by kernel_rfl) (by kernel_rfl) (fun _ _ _ h => h) (fun w' _ => by kernel_rfl) hS ?_
      simp only [Act.put, List.setIfInBounds_toArray, List.set_cons_zero, List.set_cons_succ]
      refine h_take 1 (.pointer (some ⟨P, 0, none⟩)) rfl 7 rfl (by kernel_rfl) (by kernel_rfl) (by kernel_rfl) (by kernel_rfl) (fun _ _ _ h => h) (fun w' _ => by kernel_rfl) hS ?_
      simp only [Act.put, List.setIfInBounds_toArray, List.set_cons_zero, List.set_cons_succ]
      refine h_take 2 (.pointer (some ⟨P, 0, none⟩)) rfl 8 rfl (by kernel_rfl) (by kernel_rfl) (by kernel_rfl) (by kernel_rfl) (fun _ _ _ h => h) (fun w' _ => by kernel_rfl) hS ?_
      simp only [Act.put, List.setIfInBounds_toArray, List.set_cons_zero, List.set_cons_succ]
      refine h_take 3 (.agg (rcs L cs).toArray) rfl 9 rfl (by kernel_rfl) (by kernel_rfl) (by kernel_rfl) (by kernel_rfl) (fun _ _ _ h => h) (fun w' hC => run_op_load _ _ rfl P 0 rfl (rcs L cs) (prow_ring (rz.below hC rl)) (sz_ring' HL.out)) hS ?_
      simp only [Act.put, List.setIfInBounds_toArray, List.set_cons_zero, List.set_cons_succ]
      refine h_take 4 (.pointer (some ⟨P, 0, none⟩)) rfl 10 rfl (by kernel_rfl) (by kernel_rfl) (by kernel_rfl) (by kernel_rfl) (fun _ _ _ h => h) (fun w' _ => by kernel_rfl) hS ?_
      simp only [Act.put, List.setIfInBounds_toArray, List.set_cons_zero, List.set_cons_succ]
      refine h_take 5 (.pointer (some ⟨P, 0, none⟩)) rfl 11 rfl (by kernel_rfl) (by kernel_rfl) (by kernel_rfl) (by kernel_rfl) (fun _ _ _ h => h) (fun w' _ => by kernel_rfl) hS ?_
      simp only [Act.put, List.setIfInBounds_toArray, List.set_cons_zero, List.set_cons_succ]
      refine h_take 6 (.pointer (some ⟨P, 5, none⟩)) rfl 12 rfl (by kernel_rfl) (by kernel_rfl) (by kernel_rfl) (by kernel_rfl) (fun _ _ _ h => h) (fun w' _ => by kernel_rfl) hS ?_
      simp only [Act.put, List.setIfInBounds_toArray, List.set_cons_zero, List.set_cons_succ]
      refine h_take 7 (.int .u32 (s : Int)) rfl 13 rfl (by kernel_rfl) (by kernel_rfl) (by kernel_rfl) (by kernel_rfl) (fun _ _ _ h => h) (fun w' hC => run_op_load32 _ rfl _ rfl _ ((rz.below hC rl).cell (pcs_getS HL.out))) hS ?_
      simp only [Act.put, List.setIfInBounds_toArray, List.set_cons_zero, List.set_cons_succ]
      refine h_two (i := 8) (j := 13) (by kernel_rfl) ?_ ?_
      · skip
        refine (o_call rfl 14 rfl (by kernel_rfl) (run_op_call 31 _ _ rfl #[.int .u32 (s : Int)] (by simp only [List.map_toArray, List.map_cons, List.map_nil]; rfl) Try.func31 (by kernel_rfl) (by kernel_rfl) _) (CSUB _).out ?_)
        rintro e y0 ⟨rfl, hB⟩
        have hS0 : Below Z wz y0 := below_step hS (Nat.le_trans ZL.out hS.size) hB
        refine ⟨_, rfl, hS0, ?_⟩
        clear hB
        simp only [Act.put, List.setIfInBounds_toArray, List.set_cons_zero, List.set_cons_succ]
        refine h_two (i := 9) (j := 13) (by kernel_rfl) ?_ ?_
        · skip
          refine (o_call rfl 15 rfl (by kernel_rfl) (run_op_call 30 _ _ rfl #[.agg (rcs L cs).toArray, .int .u32 (u : Int)] (by simp only [List.map_toArray, List.map_cons, List.map_nil]; rfl) Try.func30 (by kernel_rfl) (by kernel_rfl) _) (CPUT _).out ?_)
          rintro e y1 ⟨rfl, hB⟩
          have hS1 : Below Z wz y1 := below_step hS0 (Nat.le_trans ZL.out hS0.size) hB
          refine ⟨_, rfl, hS1, ?_⟩
          clear hB
          simp only [Act.put, List.setIfInBounds_toArray, List.set_cons_zero, List.set_cons_succ]
          refine h_take 10 (.tuple #[.agg (rcs 0 [0, 0, 0, 0]).toArray, .int .i64 pe]) rfl 5 rfl (by kernel_rfl) (by kernel_rfl) (by kernel_rfl) (by kernel_rfl) (fun _ _ _ h => h) (fun w' _ => by kernel_rfl) hS1 ?_
          simp only [Act.put, List.setIfInBounds_toArray, List.set_cons_zero, List.set_cons_succ]
          refine h_take 11 (.agg (rcs 0 [0, 0, 0, 0]).toArray) rfl 16 rfl (by kernel_rfl) (by kernel_rfl) (by kernel_rfl) (by kernel_rfl) (fun _ _ _ h => h) (fun w' _ => by kernel_rfl) hS1 ?_
          simp only [Act.put, List.setIfInBounds_toArray, List.set_cons_zero, List.set_cons_succ]
          refine h_take 12 (.int .i64 pe) rfl 17 rfl (by kernel_rfl) (by kernel_rfl) (by kernel_rfl) (by kernel_rfl) (fun _ _ _ h => h) (fun w' _ => by kernel_rfl) hS1 ?_
          simp only [Act.put, List.setIfInBounds_toArray, List.set_cons_zero, List.set_cons_succ]
          refine h_one (i := 13) (by kernel_rfl) (o_value _ rfl 3 rfl (by kernel_rfl) (run_op_alloc _ rfl (rcs 0 [0, 0, 0, 0]) z_ring) ?_)
          have hN := new_alloc y1 (.cells (rcs 0 [0, 0, 0, 0]).toArray 25)
          have rN2 : Row (y1.alloc (.cells (rcs 0 [0, 0, 0, 0]).toArray 25)) y1.heap.size 25 (rcs 0 [0, 0, 0, 0]) := heap_alloc_new _ _
          have lN : Z ≤ y1.heap.size := Nat.le_trans ZL.out hS1.size
          generalize y1.alloc (.cells (rcs 0 [0, 0, 0, 0]).toArray 25) = y2 at hN rN2 ⊢
          have hS2 : Below Z wz y2 := below_step hS1 (Nat.le_trans ZL.out hS1.size) hN.below
          clear hN
          refine ⟨hS2, ?_⟩
          generalize y1.heap.size = N at rN2 lN ⊢
          simp only [Act.put, List.setIfInBounds_toArray, List.set_cons_zero, List.set_cons_succ]
          refine h_one (i := 14) (by kernel_rfl) (o_skip rfl rfl (by kernel_rfl) (run_op_store _ _ _ rfl N 0 rfl (rcs 0 [0, 0, 0, 0]) rfl _ _ rN2 (fit5 rfl) (rcs_one _ _) (sz_ring' rfl)) ?_)
          have rNf := row_setRow rN2 (lay (rcs 0 [0, 0, 0, 0]) 0 (rcs 0 [0, 0, 0, 0]))
          have oNf := Only.setRow N y2 (lay (rcs 0 [0, 0, 0, 0]) 0 (rcs 0 [0, 0, 0, 0])).toArray
          generalize y2.setRow N (lay (rcs 0 [0, 0, 0, 0]) 0 (rcs 0 [0, 0, 0, 0])).toArray = yf at rNf oNf ⊢
          have hSf : Below Z wz yf := below_only hS2 oNf lN (Nat.le_trans ZL.out hS2.size)
          refine ⟨hSf, ?_⟩
          refine h_take 15 (.int .i64 pe) rfl 4 rfl (by kernel_rfl) (by kernel_rfl) (by kernel_rfl) (by kernel_rfl) (fun _ _ _ h => h) (fun w' _ => by kernel_rfl) hSf ?_
          simp only [Act.put, List.setIfInBounds_toArray, List.set_cons_zero, List.set_cons_succ]
          refine wpAnyH_done (by kernel_rfl) ?_ _
          go_wp2_with fail
          go_meet
          exact ⟨N, rfl, rfl, rNf.congr (lay_all _ _ (len5 rfl)), belz.trans (ZW.out ▸ hSf), ZW.out ▸ lN⟩
        · skip
          refine (o_value _ rfl 3 rfl (by kernel_rfl) (run_op_alloc _ rfl (rcs 0 [0, 0, 0, 0]) z_ring) ?_)
          have hN := new_alloc y0 (.cells (rcs 0 [0, 0, 0, 0]).toArray 25)
          have rN1 : Row (y0.alloc (.cells (rcs 0 [0, 0, 0, 0]).toArray 25)) y0.heap.size 25 (rcs 0 [0, 0, 0, 0]) := heap_alloc_new _ _
          have lN : Z ≤ y0.heap.size := Nat.le_trans ZL.out hS0.size
          generalize y0.alloc (.cells (rcs 0 [0, 0, 0, 0]).toArray 25) = y1 at hN rN1 ⊢
          have hS1 : Below Z wz y1 := below_step hS0 (Nat.le_trans ZL.out hS0.size) hN.below
          clear hN
          refine ⟨hS1, ?_⟩
          generalize y0.heap.size = N at rN1 lN ⊢
          simp only [Act.put, List.setIfInBounds_toArray, List.set_cons_zero, List.set_cons_succ]
          refine h_one (i := 9) (by kernel_rfl) (o_call rfl 15 rfl (by kernel_rfl) (run_op_call 30 _ _ rfl #[.agg (rcs L cs).toArray, .int .u32 (u : Int)] (by simp only [List.map_toArray, List.map_cons, List.map_nil]; rfl) Try.func30 (by kernel_rfl) (by kernel_rfl) _) (CPUT _).out ?_)
          rintro e y2 ⟨rfl, hB⟩
          have hS2 : Below Z wz y2 := below_step hS1 (Nat.le_trans ZL.out hS1.size) hB
          refine ⟨_, rfl, hS2, ?_⟩
          have rN2 := rN1.old hB
          clear hB
          simp only [Act.put, List.setIfInBounds_toArray, List.set_cons_zero, List.set_cons_succ]
          refine h_take 10 (.tuple #[.agg (rcs 0 [0, 0, 0, 0]).toArray, .int .i64 pe]) rfl 5 rfl (by kernel_rfl) (by kernel_rfl) (by kernel_rfl) (by kernel_rfl) (fun _ _ _ h => h) (fun w' _ => by kernel_rfl) hS2 ?_
          simp only [Act.put, List.setIfInBounds_toArray, List.set_cons_zero, List.set_cons_succ]
          refine h_take 11 (.agg (rcs 0 [0, 0, 0, 0]).toArray) rfl 16 rfl (by kernel_rfl) (by kernel_rfl) (by kernel_rfl) (by kernel_rfl) (fun _ _ _ h => h) (fun w' _ => by kernel_rfl) hS2 ?_
          simp only [Act.put, List.setIfInBounds_toArray, List.set_cons_zero, List.set_cons_succ]
          refine h_take 12 (.int .i64 pe) rfl 17 rfl (by kernel_rfl) (by kernel_rfl) (by kernel_rfl) (by kernel_rfl) (fun _ _ _ h => h) (fun w' _ => by kernel_rfl) hS2 ?_
          simp only [Act.put, List.setIfInBounds_toArray, List.set_cons_zero, List.set_cons_succ]
          refine h_one (i := 14) (by kernel_rfl) (o_skip rfl rfl (by kernel_rfl) (run_op_store _ _ _ rfl N 0 rfl (rcs 0 [0, 0, 0, 0]) rfl _ _ rN2 (fit5 rfl) (rcs_one _ _) (sz_ring' rfl)) ?_)
          have rNf := row_setRow rN2 (lay (rcs 0 [0, 0, 0, 0]) 0 (rcs 0 [0, 0, 0, 0]))
          have oNf := Only.setRow N y2 (lay (rcs 0 [0, 0, 0, 0]) 0 (rcs 0 [0, 0, 0, 0])).toArray
          generalize y2.setRow N (lay (rcs 0 [0, 0, 0, 0]) 0 (rcs 0 [0, 0, 0, 0])).toArray = yf at rNf oNf ⊢
          have hSf : Below Z wz yf := below_only hS2 oNf lN (Nat.le_trans ZL.out hS2.size)
          refine ⟨hSf, ?_⟩
          refine h_take 15 (.int .i64 pe) rfl 4 rfl (by kernel_rfl) (by kernel_rfl) (by kernel_rfl) (by kernel_rfl) (fun _ _ _ h => h) (fun w' _ => by kernel_rfl) hSf ?_
          simp only [Act.put, List.setIfInBounds_toArray, List.set_cons_zero, List.set_cons_succ]
          refine wpAnyH_done (by kernel_rfl) ?_ _
          go_wp2_with fail
          go_meet
          exact ⟨N, rfl, rfl, rNf.congr (lay_all _ _ (len5 rfl)), belz.trans (ZW.out ▸ hSf), ZW.out ▸ lN⟩
      · skip
        refine (o_value _ rfl 3 rfl (by kernel_rfl) (run_op_alloc _ rfl (rcs 0 [0, 0, 0, 0]) z_ring) ?_)
        have hN := new_alloc wz (.cells (rcs 0 [0, 0, 0, 0]).toArray 25)
        have rN1 : Row (wz.alloc (.cells (rcs 0 [0, 0, 0, 0]).toArray 25)) wz.heap.size 25 (rcs 0 [0, 0, 0, 0]) := heap_alloc_new _ _
        have lN : Z ≤ wz.heap.size := Nat.le_trans ZL.out hS.size
        generalize wz.alloc (.cells (rcs 0 [0, 0, 0, 0]).toArray 25) = y1 at hN rN1 ⊢
        have hS1 : Below Z wz y1 := below_step hS (Nat.le_trans ZL.out hS.size) hN.below
        clear hN
        refine ⟨hS1, ?_⟩
        generalize wz.heap.size = N at rN1 lN ⊢
        simp only [Act.put, List.setIfInBounds_toArray, List.set_cons_zero, List.set_cons_succ]
        refine h_one (i := 8) (by kernel_rfl) (o_call rfl 14 rfl (by kernel_rfl) (run_op_call 31 _ _ rfl #[.int .u32 (s : Int)] (by simp only [List.map_toArray, List.map_cons, List.map_nil]; rfl) Try.func31 (by kernel_rfl) (by kernel_rfl) _) (CSUB _).out ?_)
        rintro e y2 ⟨rfl, hB⟩
        have hS2 : Below Z wz y2 := below_step hS1 (Nat.le_trans ZL.out hS1.size) hB
        refine ⟨_, rfl, hS2, ?_⟩
        have rN2 := rN1.old hB
        clear hB
        simp only [Act.put, List.setIfInBounds_toArray, List.set_cons_zero, List.set_cons_succ]
        refine h_one (i := 9) (by kernel_rfl) (o_call rfl 15 rfl (by kernel_rfl) (run_op_call 30 _ _ rfl #[.agg (rcs L cs).toArray, .int .u32 (u : Int)] (by simp only [List.map_toArray, List.map_cons, List.map_nil]; rfl) Try.func30 (by kernel_rfl) (by kernel_rfl) _) (CPUT _).out ?_)
        rintro e y3 ⟨rfl, hB⟩
        have hS3 : Below Z wz y3 := below_step hS2 (Nat.le_trans ZL.out hS2.size) hB
        refine ⟨_, rfl, hS3, ?_⟩
        have rN3 := rN2.old hB
        clear hB
        simp only [Act.put, List.setIfInBounds_toArray, List.set_cons_zero, List.set_cons_succ]
        refine h_take 10 (.tuple #[.agg (rcs 0 [0, 0, 0, 0]).toArray, .int .i64 pe]) rfl 5 rfl (by kernel_rfl) (by kernel_rfl) (by kernel_rfl) (by kernel_rfl) (fun _ _ _ h => h) (fun w' _ => by kernel_rfl) hS3 ?_
        simp only [Act.put, List.setIfInBounds_toArray, List.set_cons_zero, List.set_cons_succ]
        refine h_take 11 (.agg (rcs 0 [0, 0, 0, 0]).toArray) rfl 16 rfl (by kernel_rfl) (by kernel_rfl) (by kernel_rfl) (by kernel_rfl) (fun _ _ _ h => h) (fun w' _ => by kernel_rfl) hS3 ?_
        simp only [Act.put, List.setIfInBounds_toArray, List.set_cons_zero, List.set_cons_succ]
        refine h_take 12 (.int .i64 pe) rfl 17 rfl (by kernel_rfl) (by kernel_rfl) (by kernel_rfl) (by kernel_rfl) (fun _ _ _ h => h) (fun w' _ => by kernel_rfl) hS3 ?_
        simp only [Act.put, List.setIfInBounds_toArray, List.set_cons_zero, List.set_cons_succ]
        refine h_one (i := 14) (by kernel_rfl) (o_skip rfl rfl (by kernel_rfl) (run_op_store _ _ _ rfl N 0 rfl (rcs 0 [0, 0, 0, 0]) rfl _ _ rN3 (fit5 rfl) (rcs_one _ _) (sz_ring' rfl)) ?_)
        have rNf := row_setRow rN3 (lay (rcs 0 [0, 0, 0, 0]) 0 (rcs 0 [0, 0, 0, 0]))
        have oNf := Only.setRow N y3 (lay (rcs 0 [0, 0, 0, 0]) 0 (rcs 0 [0, 0, 0, 0])).toArray
        generalize y3.setRow N (lay (rcs 0 [0, 0, 0, 0]) 0 (rcs 0 [0, 0, 0, 0])).toArray = yf at rNf oNf ⊢
        have hSf : Below Z wz yf := below_only hS3 oNf lN (Nat.le_trans ZL.out hS3.size)
        refine ⟨hSf, ?_⟩
        refine h_take 15 (.int .i64 pe) rfl 4 rfl (by kernel_rfl) (by kernel_rfl) (by kernel_rfl) (by kernel_rfl) (fun _ _ _ h => h) (fun w' _ => by kernel_rfl) hSf ?_
        simp only [Act.put, List.setIfInBounds_toArray, List.set_cons_zero, List.set_cons_succ]
        refine wpAnyH_done (by kernel_rfl) ?_ _
        go_wp2_with fail
        go_meet
        exact ⟨N, rfl, rfl, rNf.congr (lay_all _ _ (len5 rfl)), belz.trans (ZW.out ▸ hSf), ZW.out ▸ lN⟩
    case rest =>
      obtain ⟨N, rfl, rfl, rN, hbx, lN⟩ := hcut
      have hr1 := hr.old hbx
      have on1 := Only.of_below P hbx
      clear hr hbx lN
      go_wp2_with fail
      go_ret
      exact ⟨rfl, hr1, on1⟩
end Go.Proofs.Ytbbmjjphkmjnbaa.Wn
