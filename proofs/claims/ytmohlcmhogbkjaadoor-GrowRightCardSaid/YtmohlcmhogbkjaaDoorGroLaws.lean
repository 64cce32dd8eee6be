/-
  The walk of layer 10's statement GrowRight, out of the contracts: it returns true, and changes nothing that was there. Over this seat's translation.
-/
import Derived.Test.YtmohlcmhogbkjaaDoorGroAwake
namespace Go.Proofs.YtmohlcmhogbkjaaDoor.Gr
open Go.ChangeShapes Go.WideShapes Go.ChangeAt Go.RowKit Go.Proofs.YtmohlcmhogbkjaaDoor.Mem Go.Proofs.YtmohlcmhogbkjaaDoor.Bt Go.Proofs.YtmohlcmhogbkjaaDoor.Rg Go.Proofs.YtmohlcmhogbkjaaDoor.Wn Go.Proofs.YtmohlcmhogbkjaaDoor.Sa Go.Proofs.YtmohlcmhogbkjaaDoor.Sha
open Go.Proofs.YtmohlcmhogbkjaaDoor.Ep (H32 Dat Blk zh zh_ok num32 zd zd_ok Has h_len one_app one_num szH zH fitH allH)
set_option linter.unusedVariables false
set_option linter.unusedSimpArgs false

theorem run_op_add32 {P : Program} {o : Oper} {a : Act} (t t' : TypeId) (x y : Operand) (ho : o.op = .binOp .add t x y t') (m n r : Int) (hx : a.eval x = .int .u32 m) (hy : a.eval y = .int .u32 n) (hr : (m + n) % 4294967296 = r) (w : World) :
    (execOp a.eval o).run P w = .ok (.value (.int .u32 r)) w := by
  subst hr
  unfold execOp
  simp [ho, hx, hy, eqGuard, binOp, Op.intArith, IntKind.wrap, IntKind.signed, IntKind.bits]
set_option maxHeartbeats 4000000 in
set_option maxRecDepth 100000 in
theorem growRight_not (s : Sta) (b : Gb) (w : World) (ok : s.Ok) (kb : b.Ok) (hk : w.rangeAt 1 0 (u32s ks)) (hr : ¬ SRt s) :
    Calls Tryd.prog 3 #[.agg (scs s).toArray, .agg (gcs b).toArray] w fun e w' => e = .returned (.bool true) ∧ Below w.heap.size w w' := by
  have hk1 : 1 < w.heap.size := range_lt hk (by simp [u32s, ks])
  have HKW : Hid (∀ w', Below w.heap.size w w' → w'.rangeAt 1 0 (u32s ks)) := Lib.hid fun w' hb => range_block hk (hb.block _ hk1)
  have OK := Lib.hid ok; have KB := Lib.hid kb
  have CA := Lib.hid (fun w0 h => awake_any w0 h)
  have CR := Lib.hid (fun w0 => right_any s w0 ok)
  rw [decide_eq_false hr] at CR
  clear ok kb hk hk1 hr
  go_enter Tryd.func3, Tryd.ntmps3
  go_wp2_with (first
    | ((with_reducible refine at_slot 2 ?_); (refine arm_box (o := ⟨some 2, _, _, _, _, _⟩) rfl _ _ rfl (scs s) rfl ?_); intro S v1 Se hv1 nv1)
    | ((with_reducible refine at_slot 3 ?_); (refine arm_box (o := ⟨some 3, _, _, _, _, _⟩) rfl _ _ rfl (gcs b) rfl ?_); intro B v2 Be hv2 nv2))
  have q0 := Se.out
  have q1 := nv1.size
  have q2 := Be.out
  have q3 := nv2.size
  have lS : w.heap.size ≤ S := by omega
  have lB : w.heap.size ≤ B := by omega
  have nSB : S ≠ B := by omega
  have nBS : B ≠ S := by omega
  have rS3 : Row v2 S 35 (scs s) := (hv1.old nv2.below)
  have rB3 : Row v2 B 37 (gcs b) := hv2
  have bel3 : Below w.heap.size w v2 := (below_step (below_step (Below.refl _ _) (by omega) nv1.below) (by omega) nv2.below)
  clear q0 q1 q2 q3 Se hv1 nv1 Be hv2 nv2
  refine (CA.out _ (HKW.out _ bel3)).mono ?_
  rintro e y4 ⟨rfl, hB⟩
  have rS4 : Row y4 S 35 (scs s) := rS3.old hB
  have rB4 : Row y4 B 37 (gcs b) := rB3.old hB
  have bel4 : Below w.heap.size w y4 := below_step bel3 bel3.size hB
  clear hB rS3 rB3 bel3
  go_wp2_with (first
    | ((with_reducible refine at_slot 9 ?_); (refine arm_load (o := ⟨some 9, _, _, _, _, _⟩) rfl _ _ rfl S 0 rfl (scs s) ((show Has (scs s) 0 (scs s) from Has.refl _).range (rS4)) (sz_sta OK.out) ?_)))
  refine (CR.out _).mono ?_
  rintro e y5 ⟨rfl, hB⟩
  have rS5 : Row y5 S 35 (scs s) := rS4.old hB
  have rB5 : Row y5 B 37 (gcs b) := rB4.old hB
  have bel5 : Below w.heap.size w y5 := below_step bel4 bel4.size hB
  clear hB rS4 rB4 bel4
  go_wp2_with fail
  go_ret
  exact ⟨rfl, bel5⟩
set_option maxHeartbeats 4000000 in
set_option maxRecDepth 100000 in
theorem growRight_bad (s : Sta) (b : Gb) (w : World) (ok : s.Ok) (kb : b.Ok) (hk : w.rangeAt 1 0 (u32s ks)) (hr : SRt s) (hz : chE s b ≠ 0) :
    Calls Tryd.prog 3 #[.agg (scs s).toArray, .agg (gcs b).toArray] w fun e w' => e = .returned (.bool true) ∧ Below w.heap.size w w' := by
  have hk1 : 1 < w.heap.size := range_lt hk (by simp [u32s, ks])
  have HKW : Hid (∀ w', Below w.heap.size w w' → w'.rangeAt 1 0 (u32s ks)) := Lib.hid fun w' hb => range_block hk (hb.block _ hk1)
  have OK := Lib.hid ok; have KB := Lib.hid kb
  have CA := Lib.hid (fun w0 h => awake_any w0 h)
  have CR := Lib.hid (fun w0 => right_any s w0 ok)
  rw [decide_eq_true hr] at CR
  have CC := Lib.hid (fun w0 h => child_any s b w0 ok hr kb h)
  rw [chS_bad hz] at CC
  have HK := chE_kinds s b
  generalize chE s b = z at CC hz HK
  clear ok kb hk hk1 hr
  go_enter Tryd.func3, Tryd.ntmps3
  go_wp2_with (first
    | ((with_reducible refine at_slot 2 ?_); (refine arm_box (o := ⟨some 2, _, _, _, _, _⟩) rfl _ _ rfl (scs s) rfl ?_); intro S v1 Se hv1 nv1)
    | ((with_reducible refine at_slot 3 ?_); (refine arm_box (o := ⟨some 3, _, _, _, _, _⟩) rfl _ _ rfl (gcs b) rfl ?_); intro B v2 Be hv2 nv2))
  have q0 := Se.out
  have q1 := nv1.size
  have q2 := Be.out
  have q3 := nv2.size
  have lS : w.heap.size ≤ S := by omega
  have lB : w.heap.size ≤ B := by omega
  have nSB : S ≠ B := by omega
  have nBS : B ≠ S := by omega
  have rS3 : Row v2 S 35 (scs s) := (hv1.old nv2.below)
  have rB3 : Row v2 B 37 (gcs b) := hv2
  have bel3 : Below w.heap.size w v2 := (below_step (below_step (Below.refl _ _) (by omega) nv1.below) (by omega) nv2.below)
  clear q0 q1 q2 q3 Se hv1 nv1 Be hv2 nv2
  refine (CA.out _ (HKW.out _ bel3)).mono ?_
  rintro e y4 ⟨rfl, hB⟩
  have rS4 : Row y4 S 35 (scs s) := rS3.old hB
  have rB4 : Row y4 B 37 (gcs b) := rB3.old hB
  have bel4 : Below w.heap.size w y4 := below_step bel3 bel3.size hB
  clear hB rS3 rB3 bel3
  go_wp2_with (first
    | ((with_reducible refine at_slot 9 ?_); (refine arm_load (o := ⟨some 9, _, _, _, _, _⟩) rfl _ _ rfl S 0 rfl (scs s) ((show Has (scs s) 0 (scs s) from Has.refl _).range (rS4)) (sz_sta OK.out) ?_)))
  refine (CR.out _).mono ?_
  rintro e y5 ⟨rfl, hB⟩
  have rS5 : Row y5 S 35 (scs s) := rS4.old hB
  have rB5 : Row y5 B 37 (gcs b) := rB4.old hB
  have bel5 : Below w.heap.size w y5 := below_step bel4 bel4.size hB
  clear hB rS4 rB4 bel4
  go_wp2_with (first
    | ((with_reducible refine at_slot 13 ?_); (refine arm_load (o := ⟨some 13, _, _, _, _, _⟩) rfl _ _ rfl S 0 rfl (scs s) ((show Has (scs s) 0 (scs s) from Has.refl _).range (rS5)) (sz_sta OK.out) ?_))
    | ((with_reducible refine at_slot 14 ?_); (refine arm_load (o := ⟨some 14, _, _, _, _, _⟩) rfl _ _ rfl B 0 rfl (gcs b) ((show Has (gcs b) 0 (gcs b) from Has.refl _).range (rB5)) (sz_gb KB.out) ?_)))
  refine (CC.out _ (HKW.out _ bel5)).mono ?_
  rintro e y6 ⟨rfl, hB⟩
  have rS6 : Row y6 S 35 (scs s) := rS5.old hB
  have rB6 : Row y6 B 37 (gcs b) := rB5.old hB
  have bel6 : Below w.heap.size w y6 := below_step bel5 bel5.size hB
  clear hB rS5 rB5 bel5
  clear CC CR CA
  rcases HK with h | rfl | rfl | rfl
  · exact absurd h hz
  · clear hz
    go_wp2_with (first
      | ((with_reducible refine at_slot 5 ?_); (refine arm_alloc (o := ⟨some 5, _, _, _, _, _⟩) rfl _ rfl (scs zs) z_sta ?_); intro C v7 Ce hv7 nv7)
      | ((with_reducible refine arm_store (o := ⟨none, _, _, _, _, _⟩) rfl _ _ _ rfl C 0 rfl (scs zs) rfl _ _ (hv7) (fitS zs_ok) (scs_one _) (sz_sta zs_ok) ?_); intro v8 hv8 ov8 sv8)
      | ((with_reducible refine at_slot 20 ?_); (refine arm_load (o := ⟨some 20, _, _, _, _, _⟩) rfl _ _ rfl C 0 rfl (scs zs) ((show Has (scs zs) 0 (scs zs) from Has.refl _).range ((hv8.congr (allS zs_ok)))) (sz_sta zs_ok) ?_))
      | ((with_reducible refine at_slot 21 ?_); (refine arm_build (o := ⟨some 21, _, _, _, _, _⟩) rfl _ _ rfl (scs zs) (by simp only [List.map_toArray, List.map_cons, List.map_nil]; exact built_sta0) ?_))
      | ((with_reducible refine at_slot 22 ?_); (refine arm_want (.bool true) 22 rfl (by kernel_rfl) (run_op_eqlS zs_ok zs_ok _ _ _ rfl rfl rfl true (by simp) _) ?_)))
    have q0 := Ce.out
    have q1 := nv7.size
    have q2 := sv8.out
    have q3 := rS6.lt
    have q4 := rB6.lt
    have q5 := bel6.size
    have lC : w.heap.size ≤ C := by omega
    have nSC : S ≠ C := by omega
    have nCS : C ≠ S := by omega
    have nBC : B ≠ C := by omega
    have nCB : C ≠ B := by omega
    have rS9 : Row v8 S 35 (scs s) := ((rS6.old nv7.below).only ov8 nSC)
    have rB9 : Row v8 B 37 (gcs b) := ((rB6.old nv7.below).only ov8 nBC)
    have rC9 : Row v8 C 35 (scs zs) := (hv8.congr (allS zs_ok))
    have bel9 : Below w.heap.size w v8 := (below_only (below_step bel6 (by omega) nv7.below) ov8 lC (by omega))
    clear q0 q1 q2 q3 q4 q5 rS6 rB6 bel6 Ce hv7 nv7 hv8 ov8 sv8
    go_ret
    exact ⟨rfl, bel9⟩
  · clear hz
    go_wp2_with (first
      | ((with_reducible refine at_slot 5 ?_); (refine arm_alloc (o := ⟨some 5, _, _, _, _, _⟩) rfl _ rfl (scs zs) z_sta ?_); intro C v7 Ce hv7 nv7)
      | ((with_reducible refine arm_store (o := ⟨none, _, _, _, _, _⟩) rfl _ _ _ rfl C 0 rfl (scs zs) rfl _ _ (hv7) (fitS zs_ok) (scs_one _) (sz_sta zs_ok) ?_); intro v8 hv8 ov8 sv8)
      | ((with_reducible refine at_slot 20 ?_); (refine arm_load (o := ⟨some 20, _, _, _, _, _⟩) rfl _ _ rfl C 0 rfl (scs zs) ((show Has (scs zs) 0 (scs zs) from Has.refl _).range ((hv8.congr (allS zs_ok)))) (sz_sta zs_ok) ?_))
      | ((with_reducible refine at_slot 21 ?_); (refine arm_build (o := ⟨some 21, _, _, _, _, _⟩) rfl _ _ rfl (scs zs) (by simp only [List.map_toArray, List.map_cons, List.map_nil]; exact built_sta0) ?_))
      | ((with_reducible refine at_slot 22 ?_); (refine arm_want (.bool true) 22 rfl (by kernel_rfl) (run_op_eqlS zs_ok zs_ok _ _ _ rfl rfl rfl true (by simp) _) ?_)))
    have q0 := Ce.out
    have q1 := nv7.size
    have q2 := sv8.out
    have q3 := rS6.lt
    have q4 := rB6.lt
    have q5 := bel6.size
    have lC : w.heap.size ≤ C := by omega
    have nSC : S ≠ C := by omega
    have nCS : C ≠ S := by omega
    have nBC : B ≠ C := by omega
    have nCB : C ≠ B := by omega
    have rS9 : Row v8 S 35 (scs s) := ((rS6.old nv7.below).only ov8 nSC)
    have rB9 : Row v8 B 37 (gcs b) := ((rB6.old nv7.below).only ov8 nBC)
    have rC9 : Row v8 C 35 (scs zs) := (hv8.congr (allS zs_ok))
    have bel9 : Below w.heap.size w v8 := (below_only (below_step bel6 (by omega) nv7.below) ov8 lC (by omega))
    clear q0 q1 q2 q3 q4 q5 rS6 rB6 bel6 Ce hv7 nv7 hv8 ov8 sv8
    go_ret
    exact ⟨rfl, bel9⟩
  · clear hz
    go_wp2_with (first
      | ((with_reducible refine at_slot 5 ?_); (refine arm_alloc (o := ⟨some 5, _, _, _, _, _⟩) rfl _ rfl (scs zs) z_sta ?_); intro C v7 Ce hv7 nv7)
      | ((with_reducible refine arm_store (o := ⟨none, _, _, _, _, _⟩) rfl _ _ _ rfl C 0 rfl (scs zs) rfl _ _ (hv7) (fitS zs_ok) (scs_one _) (sz_sta zs_ok) ?_); intro v8 hv8 ov8 sv8)
      | ((with_reducible refine at_slot 20 ?_); (refine arm_load (o := ⟨some 20, _, _, _, _, _⟩) rfl _ _ rfl C 0 rfl (scs zs) ((show Has (scs zs) 0 (scs zs) from Has.refl _).range ((hv8.congr (allS zs_ok)))) (sz_sta zs_ok) ?_))
      | ((with_reducible refine at_slot 21 ?_); (refine arm_build (o := ⟨some 21, _, _, _, _, _⟩) rfl _ _ rfl (scs zs) (by simp only [List.map_toArray, List.map_cons, List.map_nil]; exact built_sta0) ?_))
      | ((with_reducible refine at_slot 22 ?_); (refine arm_want (.bool true) 22 rfl (by kernel_rfl) (run_op_eqlS zs_ok zs_ok _ _ _ rfl rfl rfl true (by simp) _) ?_)))
    have q0 := Ce.out
    have q1 := nv7.size
    have q2 := sv8.out
    have q3 := rS6.lt
    have q4 := rB6.lt
    have q5 := bel6.size
    have lC : w.heap.size ≤ C := by omega
    have nSC : S ≠ C := by omega
    have nCS : C ≠ S := by omega
    have nBC : B ≠ C := by omega
    have nCB : C ≠ B := by omega
    have rS9 : Row v8 S 35 (scs s) := ((rS6.old nv7.below).only ov8 nSC)
    have rB9 : Row v8 B 37 (gcs b) := ((rB6.old nv7.below).only ov8 nBC)
    have rC9 : Row v8 C 35 (scs zs) := (hv8.congr (allS zs_ok))
    have bel9 : Below w.heap.size w v8 := (below_only (below_step bel6 (by omega) nv7.below) ov8 lC (by omega))
    clear q0 q1 q2 q3 q4 q5 rS6 rB6 bel6 Ce hv7 nv7 hv8 ov8 sv8
    go_ret
    exact ⟨rfl, bel9⟩
set_option maxHeartbeats 4000000 in
set_option maxRecDepth 100000 in
theorem growRight_fine (s : Sta) (b : Gb) (w : World) (ok : s.Ok) (kb : b.Ok) (hk : w.rangeAt 1 0 (u32s ks)) (hr : SRt s) (hf : Fine s b) :
    Calls Tryd.prog 3 #[.agg (scs s).toArray, .agg (gcs b).toArray] w fun e w' => e = .returned (.bool true) ∧ Below w.heap.size w w' := by
  have hk1 : 1 < w.heap.size := range_lt hk (by simp [u32s, ks])
  have HKW : Hid (∀ w', Below w.heap.size w w' → w'.rangeAt 1 0 (u32s ks)) := Lib.hid fun w' hb => range_block hk (hb.block _ hk1)
  have OK := Lib.hid ok; have KB := Lib.hid kb
  have CA := Lib.hid (fun w0 h => awake_any w0 h)
  have CR := Lib.hid (fun w0 => right_any s w0 ok)
  rw [decide_eq_true hr] at CR
  have CC := Lib.hid (fun w0 h => child_any s b w0 ok hr kb h)
  rw [chE_zero.2 hf] at CC
  have KC := Lib.hid (chS_ok ok hr kb)
  have CRC := Lib.hid (fun w0 => right_any (chS s b) w0 KC.out)
  rw [decide_eq_true (chS_right hr (chE_zero.2 hf))] at CRC
  have CH := Lib.hid (fun w0 h => shash_any s w0 ok h)
  have KD := Lib.hid (digS_ok s)
  have hg : chS s b = _ := (chS_fine hf).trans (grown_fine hf)
  have HPV : Hid (Has (scs (chS s b)) 0 (u8s (digS s))) := Lib.hid (by have h := h_prev KC.out; rw [show (chS s b).prev = digS s by rw [hg]] at h; exact h)
  have HLD : Hid (Has (scs (chS s b)) 32 (u8s b.led)) := Lib.hid (by have h := h_ledg KC.out; rw [show (chS s b).led = b.led by rw [hg]] at h; exact h)
  have HDR : Hid (Has (scs (chS s b)) 64 (u8s b.draw)) := Lib.hid (by have h := h_drw KC.out; rw [show (chS s b).draw = b.draw by rw [hg]] at h; exact h)
  have hln : (chS s b).len = s.len + 1 := by rw [hg]
  have hsl : (chS s b).slot = b.slot := by rw [hg]
  have hct : (chS s b).count = s.count + entN s.slot b.slot := by rw [hg]
  have hmn : (chS s b).min ≤ s.min := by rw [hg]; exact relN_le _ _ _ _
  have hbh := hf.behind
  have hl1 := hf.len
  have hc1 := KC.out.count
  have HLN : Hid (decide (((chS s b).len : Int) = ((s.len + 1 : Nat) : Int)) = true) := Lib.hid (decide_eq_true (by omega))
  have HAD : Hid (((s.len : Int) + 1) % 4294967296 = ((s.len + 1 : Nat) : Int)) := Lib.hid (by omega)
  have HGT : Hid (decide ((s.slot : Int) < ((chS s b).slot : Int)) = true) := Lib.hid (decide_eq_true (by omega))
  have HSL : Hid (decide (((chS s b).slot : Int) = (b.slot : Int)) = true) := Lib.hid (decide_eq_true (by omega))
  have HMN : Hid (decide (((chS s b).min : Int) ≤ (s.min : Int)) = true) := Lib.hid (decide_eq_true (by omega))
  have HCT : Hid (decide (((chS s b).count : Int) = (s.count : Int)) = true ∨ decide (((chS s b).count : Int) = (s.count : Int)) = false ∧ ((s.count : Int) + 1) % 4294967296 = ((s.count + 1 : Nat) : Int) ∧ decide (((chS s b).count : Int) = ((s.count + 1 : Nat) : Int)) = true) := Lib.hid (by
    have hen := entN_le s.slot b.slot
    by_cases h : entN s.slot b.slot = 0
    · exact .inl (decide_eq_true (by omega))
    · exact .inr ⟨decide_eq_false (by omega), by omega, decide_eq_true (by omega)⟩)
  clear hg hln hsl hct hmn hbh hl1 hc1 hf
  generalize digS s = dg at CH HPV KD
  generalize chS s b = c at CC KC CRC HPV HLD HDR HLN HGT HSL HMN HCT
  clear ok kb hk hk1 hr
  go_enter Tryd.func3, Tryd.ntmps3
  go_wp2_with (first
    | ((with_reducible refine at_slot 2 ?_); (refine arm_box (o := ⟨some 2, _, _, _, _, _⟩) rfl _ _ rfl (scs s) rfl ?_); intro S v1 Se hv1 nv1)
    | ((with_reducible refine at_slot 3 ?_); (refine arm_box (o := ⟨some 3, _, _, _, _, _⟩) rfl _ _ rfl (gcs b) rfl ?_); intro B v2 Be hv2 nv2))
  have q0 := Se.out
  have q1 := nv1.size
  have q2 := Be.out
  have q3 := nv2.size
  have lS : w.heap.size ≤ S := by omega
  have lB : w.heap.size ≤ B := by omega
  have nSB : S ≠ B := by omega
  have nBS : B ≠ S := by omega
  have rS3 : Row v2 S 35 (scs s) := (hv1.old nv2.below)
  have rB3 : Row v2 B 37 (gcs b) := hv2
  have bel3 : Below w.heap.size w v2 := (below_step (below_step (Below.refl _ _) (by omega) nv1.below) (by omega) nv2.below)
  clear q0 q1 q2 q3 Se hv1 nv1 Be hv2 nv2
  refine (CA.out _ (HKW.out _ bel3)).mono ?_
  rintro e y4 ⟨rfl, hB⟩
  have rS4 : Row y4 S 35 (scs s) := rS3.old hB
  have rB4 : Row y4 B 37 (gcs b) := rB3.old hB
  have bel4 : Below w.heap.size w y4 := below_step bel3 bel3.size hB
  clear hB rS3 rB3 bel3
  go_wp2_with (first
    | ((with_reducible refine at_slot 9 ?_); (refine arm_load (o := ⟨some 9, _, _, _, _, _⟩) rfl _ _ rfl S 0 rfl (scs s) ((show Has (scs s) 0 (scs s) from Has.refl _).range (rS4)) (sz_sta OK.out) ?_)))
  refine (CR.out _).mono ?_
  rintro e y5 ⟨rfl, hB⟩
  have rS5 : Row y5 S 35 (scs s) := rS4.old hB
  have rB5 : Row y5 B 37 (gcs b) := rB4.old hB
  have bel5 : Below w.heap.size w y5 := below_step bel4 bel4.size hB
  clear hB rS4 rB4 bel4
  go_wp2_with (first
    | ((with_reducible refine at_slot 13 ?_); (refine arm_load (o := ⟨some 13, _, _, _, _, _⟩) rfl _ _ rfl S 0 rfl (scs s) ((show Has (scs s) 0 (scs s) from Has.refl _).range (rS5)) (sz_sta OK.out) ?_))
    | ((with_reducible refine at_slot 14 ?_); (refine arm_load (o := ⟨some 14, _, _, _, _, _⟩) rfl _ _ rfl B 0 rfl (gcs b) ((show Has (gcs b) 0 (gcs b) from Has.refl _).range (rB5)) (sz_gb KB.out) ?_)))
  refine (CC.out _ (HKW.out _ bel5)).mono ?_
  rintro e y6 ⟨rfl, hB⟩
  have rS6 : Row y6 S 35 (scs s) := rS5.old hB
  have rB6 : Row y6 B 37 (gcs b) := rB5.old hB
  have bel6 : Below w.heap.size w y6 := below_step bel5 bel5.size hB
  clear hB rS5 rB5 bel5
  clear CC CR CA
  go_wp2_with (first
    | ((with_reducible refine at_slot 5 ?_); (refine arm_alloc (o := ⟨some 5, _, _, _, _, _⟩) rfl _ rfl (scs zs) z_sta ?_); intro C v7 Ce hv7 nv7)
    | ((with_reducible refine arm_store (o := ⟨none, _, _, _, _, _⟩) rfl _ _ _ rfl C 0 rfl (scs c) rfl _ _ (hv7) (fitS KC.out) (scs_one _) (sz_sta KC.out) ?_); intro v8 hv8 ov8 sv8))
  have q0 := Ce.out
  have q1 := nv7.size
  have q2 := sv8.out
  have q3 := rS6.lt
  have q4 := rB6.lt
  have q5 := bel6.size
  have lC : w.heap.size ≤ C := by omega
  have nSC : S ≠ C := by omega
  have nCS : C ≠ S := by omega
  have nBC : B ≠ C := by omega
  have nCB : C ≠ B := by omega
  have rS9 : Row v8 S 35 (scs s) := ((rS6.old nv7.below).only ov8 nSC)
  have rB9 : Row v8 B 37 (gcs b) := ((rB6.old nv7.below).only ov8 nBC)
  have rC9 : Row v8 C 35 (scs c) := (hv8.congr (allS KC.out))
  have bel9 : Below w.heap.size w v8 := (below_only (below_step bel6 (by omega) nv7.below) ov8 lC (by omega))
  clear q0 q1 q2 q3 q4 q5 rS6 rB6 bel6 Ce hv7 nv7 hv8 ov8 sv8
  rcases HCT.out with hc | ⟨hc, ha, hd⟩
  · have HC := Lib.hid hc
    clear HCT hc
    refine wp_region_held (S := fun w' => Row w' S 35 (scs s) ∧ Row w' B 37 (gcs b) ∧ Row w' C 35 (scs c) ∧ True) (by kernel_rfl) ?_
    change wpAnyH _ _ _ _ _ _ _ _ v8.drew
    have rS10 : Row v8.drew S 35 (scs s) := rS9
    have rB10 : Row v8.drew B 37 (gcs b) := rB9
    have rC10 : Row v8.drew C 35 (scs c) := rC9
    have bel10 : Below w.heap.size w v8.drew := bel9.trans ((Below.refl _ _).drew)
    clear rS9 rB9 rC9 bel9
    generalize v8.drew = y10 at rS10 rB10 rC10 bel10 ⊢
    refine h_take 0 (.agg (scs c).toArray) rfl 35 rfl (by kernel_rfl) (by kernel_rfl) (by kernel_rfl) (by kernel_rfl) (fun _ _ _ h => h) (fun w' hw => run_op_load _ _ rfl C 0 rfl (scs c) ((show Has (scs c) 0 (scs c) from Has.refl _).range hw.2.2.1) (sz_sta KC.out)) ⟨rS10, rB10, rC10, trivial⟩ ?_
    simp only [Act.put, List.setIfInBounds_toArray, List.set_cons_zero, List.set_cons_succ]
    refine h_one (i := 1) (by kernel_rfl) (o_call rfl 36 rfl (by kernel_rfl) (run_op_call 7 _ _ rfl #[.agg (scs c).toArray] (by simp only [List.map_toArray, List.map_cons, List.map_nil]; rfl) Tryd.func7 (by kernel_rfl) (by kernel_rfl) _) (CRC.out y10) ?_)
    rintro e y11 ⟨rfl, hB⟩
    have rS11 : Row y11 S 35 (scs s) := rS10.old hB
    have rB11 : Row y11 B 37 (gcs b) := rB10.old hB
    have rC11 : Row y11 C 35 (scs c) := rC10.old hB
    have bel11 : Below w.heap.size w y11 := below_step bel10 bel10.size hB
    clear hB rS10 rB10 rC10 bel10
    refine ⟨_, rfl, ⟨rS11, rB11, rC11, trivial⟩, ?_⟩
    simp only [Act.put, List.setIfInBounds_toArray, List.set_cons_zero, List.set_cons_succ]
    refine h_take 2 (.bool true) rfl 37 rfl (by kernel_rfl) (by kernel_rfl) (by kernel_rfl) (by kernel_rfl) (fun _ _ _ h => h) (fun w' _ => by kernel_rfl) ⟨rS11, rB11, rC11, trivial⟩ ?_
    simp only [Act.put, List.setIfInBounds_toArray, List.set_cons_zero, List.set_cons_succ]
    refine h_take 3 (.pointer (some ⟨C, 97, none⟩)) rfl 38 rfl (by kernel_rfl) (by kernel_rfl) (by kernel_rfl) (by kernel_rfl) (fun _ _ _ h => h) (fun w' _ => by kernel_rfl) ⟨rS11, rB11, rC11, trivial⟩ ?_
    simp only [Act.put, List.setIfInBounds_toArray, List.set_cons_zero, List.set_cons_succ]
    refine h_take 4 (num32 c.len) rfl 39 rfl (by kernel_rfl) (by kernel_rfl) (by kernel_rfl) (by kernel_rfl) (fun _ _ _ h => h) (fun w' hw => run_op_load1 _ _ rfl (.int .u32) (by kernel_rfl) rfl ⟨C, 97, none⟩ rfl (num32 c.len) (hw.2.2.1.cell (show Has (scs c) 97 [num32 c.len] from h_lngth KC.out).get)) ⟨rS11, rB11, rC11, trivial⟩ ?_
    simp only [Act.put, List.setIfInBounds_toArray, List.set_cons_zero, List.set_cons_succ]
    refine h_take 5 (.pointer (some ⟨S, 97, none⟩)) rfl 40 rfl (by kernel_rfl) (by kernel_rfl) (by kernel_rfl) (by kernel_rfl) (fun _ _ _ h => h) (fun w' _ => by kernel_rfl) ⟨rS11, rB11, rC11, trivial⟩ ?_
    simp only [Act.put, List.setIfInBounds_toArray, List.set_cons_zero, List.set_cons_succ]
    refine h_take 6 (num32 s.len) rfl 41 rfl (by kernel_rfl) (by kernel_rfl) (by kernel_rfl) (by kernel_rfl) (fun _ _ _ h => h) (fun w' hw => run_op_load1 _ _ rfl (.int .u32) (by kernel_rfl) rfl ⟨S, 97, none⟩ rfl (num32 s.len) (hw.1.cell (show Has (scs s) 97 [num32 s.len] from h_lngth OK.out).get)) ⟨rS11, rB11, rC11, trivial⟩ ?_
    simp only [Act.put, List.setIfInBounds_toArray, List.set_cons_zero, List.set_cons_succ]
    refine h_take 7 (.int .u32 ((s.len + 1 : Nat) : Int)) rfl 42 rfl (by kernel_rfl) (by kernel_rfl) (by kernel_rfl) (by kernel_rfl) (fun _ _ _ h => h) (fun w' _ => run_op_add32 _ _ _ _ rfl (s.len : Int) 1 _ rfl rfl HAD.out w') ⟨rS11, rB11, rC11, trivial⟩ ?_
    simp only [Act.put, List.setIfInBounds_toArray, List.set_cons_zero, List.set_cons_succ]
    refine h_take 8 (.bool true) rfl 43 rfl (by kernel_rfl) (by kernel_rfl) (by kernel_rfl) (by kernel_rfl) (fun _ _ _ h => h) (fun w' _ => cmp_eql _ _ .u32 (by kernel_rfl) _ _ rfl .u32 (c.len : Int) ((s.len + 1 : Nat) : Int) rfl rfl true HLN.out w') ⟨rS11, rB11, rC11, trivial⟩ ?_
    simp only [Act.put, List.setIfInBounds_toArray, List.set_cons_zero, List.set_cons_succ]
    refine h_take 9 (.bool true) rfl 44 rfl (by kernel_rfl) (by kernel_rfl) (by kernel_rfl) (by kernel_rfl) (fun _ _ _ h => h) (fun w' _ => by kernel_rfl) ⟨rS11, rB11, rC11, trivial⟩ ?_
    simp only [Act.put, List.setIfInBounds_toArray, List.set_cons_zero, List.set_cons_succ]
    refine h_take 10 (.bool true) rfl 45 rfl (by kernel_rfl) (by kernel_rfl) (by kernel_rfl) (by kernel_rfl) (fun _ _ _ h => h) (fun w' _ => by kernel_rfl) ⟨rS11, rB11, rC11, trivial⟩ ?_
    simp only [Act.put, List.setIfInBounds_toArray, List.set_cons_zero, List.set_cons_succ]
    refine h_take 11 (.pointer (some ⟨C, 96, none⟩)) rfl 46 rfl (by kernel_rfl) (by kernel_rfl) (by kernel_rfl) (by kernel_rfl) (fun _ _ _ h => h) (fun w' _ => by kernel_rfl) ⟨rS11, rB11, rC11, trivial⟩ ?_
    simp only [Act.put, List.setIfInBounds_toArray, List.set_cons_zero, List.set_cons_succ]
    refine h_take 12 (num32 c.slot) rfl 47 rfl (by kernel_rfl) (by kernel_rfl) (by kernel_rfl) (by kernel_rfl) (fun _ _ _ h => h) (fun w' hw => run_op_load1 _ _ rfl (.int .u32) (by kernel_rfl) rfl ⟨C, 96, none⟩ rfl (num32 c.slot) (hw.2.2.1.cell (show Has (scs c) 96 [num32 c.slot] from h_slt KC.out).get)) ⟨rS11, rB11, rC11, trivial⟩ ?_
    simp only [Act.put, List.setIfInBounds_toArray, List.set_cons_zero, List.set_cons_succ]
    refine h_take 13 (.pointer (some ⟨S, 96, none⟩)) rfl 48 rfl (by kernel_rfl) (by kernel_rfl) (by kernel_rfl) (by kernel_rfl) (fun _ _ _ h => h) (fun w' _ => by kernel_rfl) ⟨rS11, rB11, rC11, trivial⟩ ?_
    simp only [Act.put, List.setIfInBounds_toArray, List.set_cons_zero, List.set_cons_succ]
    refine h_take 14 (num32 s.slot) rfl 49 rfl (by kernel_rfl) (by kernel_rfl) (by kernel_rfl) (by kernel_rfl) (fun _ _ _ h => h) (fun w' hw => run_op_load1 _ _ rfl (.int .u32) (by kernel_rfl) rfl ⟨S, 96, none⟩ rfl (num32 s.slot) (hw.1.cell (show Has (scs s) 96 [num32 s.slot] from h_slt OK.out).get)) ⟨rS11, rB11, rC11, trivial⟩ ?_
    simp only [Act.put, List.setIfInBounds_toArray, List.set_cons_zero, List.set_cons_succ]
    refine h_take 15 (.bool true) rfl 50 rfl (by kernel_rfl) (by kernel_rfl) (by kernel_rfl) (by kernel_rfl) (fun _ _ _ h => h) (fun w' _ => cmp_gtr _ _ _ _ rfl .u32 (c.slot : Int) (s.slot : Int) rfl rfl true HGT.out w') ⟨rS11, rB11, rC11, trivial⟩ ?_
    simp only [Act.put, List.setIfInBounds_toArray, List.set_cons_zero, List.set_cons_succ]
    refine h_take 16 (.bool true) rfl 51 rfl (by kernel_rfl) (by kernel_rfl) (by kernel_rfl) (by kernel_rfl) (fun _ _ _ h => h) (fun w' _ => by kernel_rfl) ⟨rS11, rB11, rC11, trivial⟩ ?_
    simp only [Act.put, List.setIfInBounds_toArray, List.set_cons_zero, List.set_cons_succ]
    refine h_take 17 (.bool true) rfl 52 rfl (by kernel_rfl) (by kernel_rfl) (by kernel_rfl) (by kernel_rfl) (fun _ _ _ h => h) (fun w' _ => by kernel_rfl) ⟨rS11, rB11, rC11, trivial⟩ ?_
    simp only [Act.put, List.setIfInBounds_toArray, List.set_cons_zero, List.set_cons_succ]
    refine h_take 18 (.pointer (some ⟨C, 96, none⟩)) rfl 53 rfl (by kernel_rfl) (by kernel_rfl) (by kernel_rfl) (by kernel_rfl) (fun _ _ _ h => h) (fun w' _ => by kernel_rfl) ⟨rS11, rB11, rC11, trivial⟩ ?_
    simp only [Act.put, List.setIfInBounds_toArray, List.set_cons_zero, List.set_cons_succ]
    refine h_take 19 (num32 c.slot) rfl 54 rfl (by kernel_rfl) (by kernel_rfl) (by kernel_rfl) (by kernel_rfl) (fun _ _ _ h => h) (fun w' hw => run_op_load1 _ _ rfl (.int .u32) (by kernel_rfl) rfl ⟨C, 96, none⟩ rfl (num32 c.slot) (hw.2.2.1.cell (show Has (scs c) 96 [num32 c.slot] from h_slt KC.out).get)) ⟨rS11, rB11, rC11, trivial⟩ ?_
    simp only [Act.put, List.setIfInBounds_toArray, List.set_cons_zero, List.set_cons_succ]
    refine h_take 20 (.pointer (some ⟨B, 0, none⟩)) rfl 55 rfl (by kernel_rfl) (by kernel_rfl) (by kernel_rfl) (by kernel_rfl) (fun _ _ _ h => h) (fun w' _ => by kernel_rfl) ⟨rS11, rB11, rC11, trivial⟩ ?_
    simp only [Act.put, List.setIfInBounds_toArray, List.set_cons_zero, List.set_cons_succ]
    refine h_take 21 (num32 b.slot) rfl 56 rfl (by kernel_rfl) (by kernel_rfl) (by kernel_rfl) (by kernel_rfl) (fun _ _ _ h => h) (fun w' hw => run_op_load1 _ _ rfl (.int .u32) (by kernel_rfl) rfl ⟨B, 0, none⟩ rfl (num32 b.slot) (hw.2.1.cell (show Has (gcs b) 0 [num32 b.slot] from g0 b).get)) ⟨rS11, rB11, rC11, trivial⟩ ?_
    simp only [Act.put, List.setIfInBounds_toArray, List.set_cons_zero, List.set_cons_succ]
    refine h_take 22 (.bool true) rfl 57 rfl (by kernel_rfl) (by kernel_rfl) (by kernel_rfl) (by kernel_rfl) (fun _ _ _ h => h) (fun w' _ => cmp_eql _ _ .u32 (by kernel_rfl) _ _ rfl .u32 (c.slot : Int) (b.slot : Int) rfl rfl true HSL.out w') ⟨rS11, rB11, rC11, trivial⟩ ?_
    simp only [Act.put, List.setIfInBounds_toArray, List.set_cons_zero, List.set_cons_succ]
    refine h_take 23 (.bool true) rfl 58 rfl (by kernel_rfl) (by kernel_rfl) (by kernel_rfl) (by kernel_rfl) (fun _ _ _ h => h) (fun w' _ => by kernel_rfl) ⟨rS11, rB11, rC11, trivial⟩ ?_
    simp only [Act.put, List.setIfInBounds_toArray, List.set_cons_zero, List.set_cons_succ]
    refine h_take 24 (.bool true) rfl 59 rfl (by kernel_rfl) (by kernel_rfl) (by kernel_rfl) (by kernel_rfl) (fun _ _ _ h => h) (fun w' _ => by kernel_rfl) ⟨rS11, rB11, rC11, trivial⟩ ?_
    simp only [Act.put, List.setIfInBounds_toArray, List.set_cons_zero, List.set_cons_succ]
    refine h_take 25 (.pointer (some ⟨C, 0, none⟩)) rfl 60 rfl (by kernel_rfl) (by kernel_rfl) (by kernel_rfl) (by kernel_rfl) (fun _ _ _ h => h) (fun w' _ => by kernel_rfl) ⟨rS11, rB11, rC11, trivial⟩ ?_
    simp only [Act.put, List.setIfInBounds_toArray, List.set_cons_zero, List.set_cons_succ]
    refine h_take 26 (.agg (u8s dg).toArray) rfl 61 rfl (by kernel_rfl) (by kernel_rfl) (by kernel_rfl) (by kernel_rfl) (fun _ _ _ h => h) (fun w' hw => run_op_load _ _ rfl C 0 rfl (u8s dg) ((show Has (scs c) 0 (u8s dg) from HPV.out).range hw.2.2.1) (szH KD.out)) ⟨rS11, rB11, rC11, trivial⟩ ?_
    simp only [Act.put, List.setIfInBounds_toArray, List.set_cons_zero, List.set_cons_succ]
    refine h_take 27 (.agg (scs s).toArray) rfl 62 rfl (by kernel_rfl) (by kernel_rfl) (by kernel_rfl) (by kernel_rfl) (fun _ _ _ h => h) (fun w' hw => run_op_load _ _ rfl S 0 rfl (scs s) ((show Has (scs s) 0 (scs s) from Has.refl _).range hw.1) (sz_sta OK.out)) ⟨rS11, rB11, rC11, trivial⟩ ?_
    simp only [Act.put, List.setIfInBounds_toArray, List.set_cons_zero, List.set_cons_succ]
    refine h_one (i := 28) (by kernel_rfl) (o_call rfl 63 rfl (by kernel_rfl) (run_op_call 9 _ _ rfl #[.agg (scs s).toArray] (by simp only [List.map_toArray, List.map_cons, List.map_nil]; rfl) Tryd.func9 (by kernel_rfl) (by kernel_rfl) _) (CH.out y11 (HKW.out y11 bel11)) ?_)
    rintro e y12 ⟨rfl, hB⟩
    have rS12 : Row y12 S 35 (scs s) := rS11.old hB
    have rB12 : Row y12 B 37 (gcs b) := rB11.old hB
    have rC12 : Row y12 C 35 (scs c) := rC11.old hB
    have bel12 : Below w.heap.size w y12 := below_step bel11 bel11.size hB
    clear hB rS11 rB11 rC11 bel11
    refine ⟨_, rfl, ⟨rS12, rB12, rC12, trivial⟩, ?_⟩
    simp only [Act.put, List.setIfInBounds_toArray, List.set_cons_zero, List.set_cons_succ]
    refine h_take 29 (.bool true) rfl 64 rfl (by kernel_rfl) (by kernel_rfl) (by kernel_rfl) (by kernel_rfl) (fun _ _ _ h => h) (fun w' _ => run_op_eql _ _ _ rfl (dg) (KD.out.len) rfl rfl w') ⟨rS12, rB12, rC12, trivial⟩ ?_
    simp only [Act.put, List.setIfInBounds_toArray, List.set_cons_zero, List.set_cons_succ]
    refine h_take 30 (.bool true) rfl 65 rfl (by kernel_rfl) (by kernel_rfl) (by kernel_rfl) (by kernel_rfl) (fun _ _ _ h => h) (fun w' _ => by kernel_rfl) ⟨rS12, rB12, rC12, trivial⟩ ?_
    simp only [Act.put, List.setIfInBounds_toArray, List.set_cons_zero, List.set_cons_succ]
    refine h_take 31 (.bool true) rfl 66 rfl (by kernel_rfl) (by kernel_rfl) (by kernel_rfl) (by kernel_rfl) (fun _ _ _ h => h) (fun w' _ => by kernel_rfl) ⟨rS12, rB12, rC12, trivial⟩ ?_
    simp only [Act.put, List.setIfInBounds_toArray, List.set_cons_zero, List.set_cons_succ]
    refine h_take 32 (.pointer (some ⟨C, 32, none⟩)) rfl 67 rfl (by kernel_rfl) (by kernel_rfl) (by kernel_rfl) (by kernel_rfl) (fun _ _ _ h => h) (fun w' _ => by kernel_rfl) ⟨rS12, rB12, rC12, trivial⟩ ?_
    simp only [Act.put, List.setIfInBounds_toArray, List.set_cons_zero, List.set_cons_succ]
    refine h_take 33 (.agg (u8s b.led).toArray) rfl 68 rfl (by kernel_rfl) (by kernel_rfl) (by kernel_rfl) (by kernel_rfl) (fun _ _ _ h => h) (fun w' hw => run_op_load _ _ rfl C 32 rfl (u8s b.led) ((show Has (scs c) 32 (u8s b.led) from HLD.out).range hw.2.2.1) (szH KB.out.led)) ⟨rS12, rB12, rC12, trivial⟩ ?_
    simp only [Act.put, List.setIfInBounds_toArray, List.set_cons_zero, List.set_cons_succ]
    refine h_take 34 (.pointer (some ⟨B, 1, none⟩)) rfl 69 rfl (by kernel_rfl) (by kernel_rfl) (by kernel_rfl) (by kernel_rfl) (fun _ _ _ h => h) (fun w' _ => by kernel_rfl) ⟨rS12, rB12, rC12, trivial⟩ ?_
    simp only [Act.put, List.setIfInBounds_toArray, List.set_cons_zero, List.set_cons_succ]
    refine h_take 35 (.agg (u8s b.led).toArray) rfl 70 rfl (by kernel_rfl) (by kernel_rfl) (by kernel_rfl) (by kernel_rfl) (fun _ _ _ h => h) (fun w' hw => run_op_load _ _ rfl B 1 rfl (u8s b.led) ((show Has (gcs b) 1 (u8s b.led) from g1 b).range hw.2.1) (szH KB.out.led)) ⟨rS12, rB12, rC12, trivial⟩ ?_
    simp only [Act.put, List.setIfInBounds_toArray, List.set_cons_zero, List.set_cons_succ]
    refine h_take 36 (.bool true) rfl 71 rfl (by kernel_rfl) (by kernel_rfl) (by kernel_rfl) (by kernel_rfl) (fun _ _ _ h => h) (fun w' _ => run_op_eql _ _ _ rfl (b.led) (KB.out.led.len) rfl rfl w') ⟨rS12, rB12, rC12, trivial⟩ ?_
    simp only [Act.put, List.setIfInBounds_toArray, List.set_cons_zero, List.set_cons_succ]
    refine h_take 37 (.bool true) rfl 72 rfl (by kernel_rfl) (by kernel_rfl) (by kernel_rfl) (by kernel_rfl) (fun _ _ _ h => h) (fun w' _ => by kernel_rfl) ⟨rS12, rB12, rC12, trivial⟩ ?_
    simp only [Act.put, List.setIfInBounds_toArray, List.set_cons_zero, List.set_cons_succ]
    refine h_take 38 (.bool true) rfl 73 rfl (by kernel_rfl) (by kernel_rfl) (by kernel_rfl) (by kernel_rfl) (fun _ _ _ h => h) (fun w' _ => by kernel_rfl) ⟨rS12, rB12, rC12, trivial⟩ ?_
    simp only [Act.put, List.setIfInBounds_toArray, List.set_cons_zero, List.set_cons_succ]
    refine h_take 39 (.pointer (some ⟨C, 64, none⟩)) rfl 74 rfl (by kernel_rfl) (by kernel_rfl) (by kernel_rfl) (by kernel_rfl) (fun _ _ _ h => h) (fun w' _ => by kernel_rfl) ⟨rS12, rB12, rC12, trivial⟩ ?_
    simp only [Act.put, List.setIfInBounds_toArray, List.set_cons_zero, List.set_cons_succ]
    refine h_take 40 (.agg (u8s b.draw).toArray) rfl 75 rfl (by kernel_rfl) (by kernel_rfl) (by kernel_rfl) (by kernel_rfl) (fun _ _ _ h => h) (fun w' hw => run_op_load _ _ rfl C 64 rfl (u8s b.draw) ((show Has (scs c) 64 (u8s b.draw) from HDR.out).range hw.2.2.1) (szH KB.out.draw)) ⟨rS12, rB12, rC12, trivial⟩ ?_
    simp only [Act.put, List.setIfInBounds_toArray, List.set_cons_zero, List.set_cons_succ]
    refine h_take 41 (.pointer (some ⟨B, 33, none⟩)) rfl 76 rfl (by kernel_rfl) (by kernel_rfl) (by kernel_rfl) (by kernel_rfl) (fun _ _ _ h => h) (fun w' _ => by kernel_rfl) ⟨rS12, rB12, rC12, trivial⟩ ?_
    simp only [Act.put, List.setIfInBounds_toArray, List.set_cons_zero, List.set_cons_succ]
    refine h_take 42 (.agg (u8s b.draw).toArray) rfl 77 rfl (by kernel_rfl) (by kernel_rfl) (by kernel_rfl) (by kernel_rfl) (fun _ _ _ h => h) (fun w' hw => run_op_load _ _ rfl B 33 rfl (u8s b.draw) ((show Has (gcs b) 33 (u8s b.draw) from g33 KB.out).range hw.2.1) (szH KB.out.draw)) ⟨rS12, rB12, rC12, trivial⟩ ?_
    simp only [Act.put, List.setIfInBounds_toArray, List.set_cons_zero, List.set_cons_succ]
    refine h_take 43 (.bool true) rfl 78 rfl (by kernel_rfl) (by kernel_rfl) (by kernel_rfl) (by kernel_rfl) (fun _ _ _ h => h) (fun w' _ => run_op_eql _ _ _ rfl (b.draw) (KB.out.draw.len) rfl rfl w') ⟨rS12, rB12, rC12, trivial⟩ ?_
    simp only [Act.put, List.setIfInBounds_toArray, List.set_cons_zero, List.set_cons_succ]
    refine h_take 44 (.bool true) rfl 79 rfl (by kernel_rfl) (by kernel_rfl) (by kernel_rfl) (by kernel_rfl) (fun _ _ _ h => h) (fun w' _ => by kernel_rfl) ⟨rS12, rB12, rC12, trivial⟩ ?_
    simp only [Act.put, List.setIfInBounds_toArray, List.set_cons_zero, List.set_cons_succ]
    refine h_take 45 (.bool true) rfl 80 rfl (by kernel_rfl) (by kernel_rfl) (by kernel_rfl) (by kernel_rfl) (fun _ _ _ h => h) (fun w' _ => by kernel_rfl) ⟨rS12, rB12, rC12, trivial⟩ ?_
    simp only [Act.put, List.setIfInBounds_toArray, List.set_cons_zero, List.set_cons_succ]
    refine h_take 46 (.pointer (some ⟨C, 99, none⟩)) rfl 81 rfl (by kernel_rfl) (by kernel_rfl) (by kernel_rfl) (by kernel_rfl) (fun _ _ _ h => h) (fun w' _ => by kernel_rfl) ⟨rS12, rB12, rC12, trivial⟩ ?_
    simp only [Act.put, List.setIfInBounds_toArray, List.set_cons_zero, List.set_cons_succ]
    refine h_take 47 (.pointer (some ⟨C, 99, none⟩)) rfl 82 rfl (by kernel_rfl) (by kernel_rfl) (by kernel_rfl) (by kernel_rfl) (fun _ _ _ h => h) (fun w' _ => by kernel_rfl) ⟨rS12, rB12, rC12, trivial⟩ ?_
    simp only [Act.put, List.setIfInBounds_toArray, List.set_cons_zero, List.set_cons_succ]
    refine h_take 48 (num32 c.min) rfl 83 rfl (by kernel_rfl) (by kernel_rfl) (by kernel_rfl) (by kernel_rfl) (fun _ _ _ h => h) (fun w' hw => run_op_load1 _ _ rfl (.int .u32) (by kernel_rfl) rfl ⟨C, 99, none⟩ rfl (num32 c.min) (hw.2.2.1.cell (show Has (scs c) 99 [num32 c.min] from Has.head (s_win KC.out)).get)) ⟨rS12, rB12, rC12, trivial⟩ ?_
    simp only [Act.put, List.setIfInBounds_toArray, List.set_cons_zero, List.set_cons_succ]
    refine h_take 49 (.pointer (some ⟨S, 99, none⟩)) rfl 84 rfl (by kernel_rfl) (by kernel_rfl) (by kernel_rfl) (by kernel_rfl) (fun _ _ _ h => h) (fun w' _ => by kernel_rfl) ⟨rS12, rB12, rC12, trivial⟩ ?_
    simp only [Act.put, List.setIfInBounds_toArray, List.set_cons_zero, List.set_cons_succ]
    refine h_take 50 (.pointer (some ⟨S, 99, none⟩)) rfl 85 rfl (by kernel_rfl) (by kernel_rfl) (by kernel_rfl) (by kernel_rfl) (fun _ _ _ h => h) (fun w' _ => by kernel_rfl) ⟨rS12, rB12, rC12, trivial⟩ ?_
    simp only [Act.put, List.setIfInBounds_toArray, List.set_cons_zero, List.set_cons_succ]
    refine h_take 51 (num32 s.min) rfl 86 rfl (by kernel_rfl) (by kernel_rfl) (by kernel_rfl) (by kernel_rfl) (fun _ _ _ h => h) (fun w' hw => run_op_load1 _ _ rfl (.int .u32) (by kernel_rfl) rfl ⟨S, 99, none⟩ rfl (num32 s.min) (hw.1.cell (show Has (scs s) 99 [num32 s.min] from Has.head (s_win OK.out)).get)) ⟨rS12, rB12, rC12, trivial⟩ ?_
    simp only [Act.put, List.setIfInBounds_toArray, List.set_cons_zero, List.set_cons_succ]
    refine h_take 52 (.bool true) rfl 87 rfl (by kernel_rfl) (by kernel_rfl) (by kernel_rfl) (by kernel_rfl) (fun _ _ _ h => h) (fun w' _ => cmp_leq _ _ _ _ rfl .u32 (c.min : Int) (s.min : Int) rfl rfl true HMN.out w') ⟨rS12, rB12, rC12, trivial⟩ ?_
    simp only [Act.put, List.setIfInBounds_toArray, List.set_cons_zero, List.set_cons_succ]
    refine h_take 53 (.bool true) rfl 88 rfl (by kernel_rfl) (by kernel_rfl) (by kernel_rfl) (by kernel_rfl) (fun _ _ _ h => h) (fun w' _ => by kernel_rfl) ⟨rS12, rB12, rC12, trivial⟩ ?_
    simp only [Act.put, List.setIfInBounds_toArray, List.set_cons_zero, List.set_cons_succ]
    refine h_take 54 (.bool true) rfl 89 rfl (by kernel_rfl) (by kernel_rfl) (by kernel_rfl) (by kernel_rfl) (fun _ _ _ h => h) (fun w' _ => by kernel_rfl) ⟨rS12, rB12, rC12, trivial⟩ ?_
    simp only [Act.put, List.setIfInBounds_toArray, List.set_cons_zero, List.set_cons_succ]
    refine h_take 55 (.pointer (some ⟨C, 98, none⟩)) rfl 90 rfl (by kernel_rfl) (by kernel_rfl) (by kernel_rfl) (by kernel_rfl) (fun _ _ _ h => h) (fun w' _ => by kernel_rfl) ⟨rS12, rB12, rC12, trivial⟩ ?_
    simp only [Act.put, List.setIfInBounds_toArray, List.set_cons_zero, List.set_cons_succ]
    refine h_take 56 (num32 c.count) rfl 91 rfl (by kernel_rfl) (by kernel_rfl) (by kernel_rfl) (by kernel_rfl) (fun _ _ _ h => h) (fun w' hw => run_op_load1 _ _ rfl (.int .u32) (by kernel_rfl) rfl ⟨C, 98, none⟩ rfl (num32 c.count) (hw.2.2.1.cell (show Has (scs c) 98 [num32 c.count] from h_cnt KC.out).get)) ⟨rS12, rB12, rC12, trivial⟩ ?_
    simp only [Act.put, List.setIfInBounds_toArray, List.set_cons_zero, List.set_cons_succ]
    refine h_take 57 (.pointer (some ⟨S, 98, none⟩)) rfl 92 rfl (by kernel_rfl) (by kernel_rfl) (by kernel_rfl) (by kernel_rfl) (fun _ _ _ h => h) (fun w' _ => by kernel_rfl) ⟨rS12, rB12, rC12, trivial⟩ ?_
    simp only [Act.put, List.setIfInBounds_toArray, List.set_cons_zero, List.set_cons_succ]
    refine h_take 58 (num32 s.count) rfl 93 rfl (by kernel_rfl) (by kernel_rfl) (by kernel_rfl) (by kernel_rfl) (fun _ _ _ h => h) (fun w' hw => run_op_load1 _ _ rfl (.int .u32) (by kernel_rfl) rfl ⟨S, 98, none⟩ rfl (num32 s.count) (hw.1.cell (show Has (scs s) 98 [num32 s.count] from h_cnt OK.out).get)) ⟨rS12, rB12, rC12, trivial⟩ ?_
    simp only [Act.put, List.setIfInBounds_toArray, List.set_cons_zero, List.set_cons_succ]
    refine h_take 59 (.bool true) rfl 94 rfl (by kernel_rfl) (by kernel_rfl) (by kernel_rfl) (by kernel_rfl) (fun _ _ _ h => h) (fun w' _ => cmp_eql _ _ .u32 (by kernel_rfl) _ _ rfl .u32 (c.count : Int) (s.count : Int) rfl rfl true HC.out w') ⟨rS12, rB12, rC12, trivial⟩ ?_
    simp only [Act.put, List.setIfInBounds_toArray, List.set_cons_zero, List.set_cons_succ]
    refine h_take 60 (.bool true) rfl 95 rfl (by kernel_rfl) (by kernel_rfl) (by kernel_rfl) (by kernel_rfl) (fun _ _ _ h => h) (fun w' _ => by kernel_rfl) ⟨rS12, rB12, rC12, trivial⟩ ?_
    simp only [Act.put, List.setIfInBounds_toArray, List.set_cons_zero, List.set_cons_succ]
    refine h_pass 61 rfl 96 rfl (by kernel_rfl) (by kernel_rfl) (by kernel_rfl) (by kernel_rfl) (fun _ _ _ h => h) ⟨rS12, rB12, rC12, trivial⟩ ?_
    simp only [Act.put, List.setIfInBounds_toArray, List.set_cons_zero, List.set_cons_succ]
    refine h_pass 62 rfl 97 rfl (by kernel_rfl) (by kernel_rfl) (by kernel_rfl) (by kernel_rfl) (fun _ _ _ h => h) ⟨rS12, rB12, rC12, trivial⟩ ?_
    simp only [Act.put, List.setIfInBounds_toArray, List.set_cons_zero, List.set_cons_succ]
    refine h_pass 63 rfl 98 rfl (by kernel_rfl) (by kernel_rfl) (by kernel_rfl) (by kernel_rfl) (fun _ _ _ h => h) ⟨rS12, rB12, rC12, trivial⟩ ?_
    simp only [Act.put, List.setIfInBounds_toArray, List.set_cons_zero, List.set_cons_succ]
    refine h_pass 64 rfl 99 rfl (by kernel_rfl) (by kernel_rfl) (by kernel_rfl) (by kernel_rfl) (fun _ _ _ h => h) ⟨rS12, rB12, rC12, trivial⟩ ?_
    simp only [Act.put, List.setIfInBounds_toArray, List.set_cons_zero, List.set_cons_succ]
    refine h_pass 65 rfl 100 rfl (by kernel_rfl) (by kernel_rfl) (by kernel_rfl) (by kernel_rfl) (fun _ _ _ h => h) ⟨rS12, rB12, rC12, trivial⟩ ?_
    simp only [Act.put, List.setIfInBounds_toArray, List.set_cons_zero, List.set_cons_succ]
    refine h_pass 66 rfl 101 rfl (by kernel_rfl) (by kernel_rfl) (by kernel_rfl) (by kernel_rfl) (fun _ _ _ h => h) ⟨rS12, rB12, rC12, trivial⟩ ?_
    simp only [Act.put, List.setIfInBounds_toArray, List.set_cons_zero, List.set_cons_succ]
    refine h_take 67 (.bool true) rfl 102 rfl (by kernel_rfl) (by kernel_rfl) (by kernel_rfl) (by kernel_rfl) (fun _ _ _ h => h) (fun w' _ => by kernel_rfl) ⟨rS12, rB12, rC12, trivial⟩ ?_
    simp only [Act.put, List.setIfInBounds_toArray, List.set_cons_zero, List.set_cons_succ]
    refine h_take 68 (.bool true) rfl 103 rfl (by kernel_rfl) (by kernel_rfl) (by kernel_rfl) (by kernel_rfl) (fun _ _ _ h => h) (fun w' _ => by kernel_rfl) ⟨rS12, rB12, rC12, trivial⟩ ?_
    simp only [Act.put, List.setIfInBounds_toArray, List.set_cons_zero, List.set_cons_succ]
    refine h_take 69 (.bool true) rfl 4 rfl (by kernel_rfl) (by kernel_rfl) (by kernel_rfl) (by kernel_rfl) (fun _ _ _ h => h) (fun w' _ => by kernel_rfl) ⟨rS12, rB12, rC12, trivial⟩ ?_
    simp only [Act.put, List.setIfInBounds_toArray, List.set_cons_zero, List.set_cons_succ]
    refine wpAnyH_done (by kernel_rfl) ?_ _
    go_wp2_with fail
    go_ret
    exact ⟨rfl, bel12⟩
  · have HC := Lib.hid hc; have HA := Lib.hid ha; have HD := Lib.hid hd
    clear HCT hc ha hd
    refine wp_region_held (S := fun w' => Row w' S 35 (scs s) ∧ Row w' B 37 (gcs b) ∧ Row w' C 35 (scs c) ∧ True) (by kernel_rfl) ?_
    change wpAnyH _ _ _ _ _ _ _ _ v8.drew
    have rS10 : Row v8.drew S 35 (scs s) := rS9
    have rB10 : Row v8.drew B 37 (gcs b) := rB9
    have rC10 : Row v8.drew C 35 (scs c) := rC9
    have bel10 : Below w.heap.size w v8.drew := bel9.trans ((Below.refl _ _).drew)
    clear rS9 rB9 rC9 bel9
    generalize v8.drew = y10 at rS10 rB10 rC10 bel10 ⊢
    refine h_take 0 (.agg (scs c).toArray) rfl 35 rfl (by kernel_rfl) (by kernel_rfl) (by kernel_rfl) (by kernel_rfl) (fun _ _ _ h => h) (fun w' hw => run_op_load _ _ rfl C 0 rfl (scs c) ((show Has (scs c) 0 (scs c) from Has.refl _).range hw.2.2.1) (sz_sta KC.out)) ⟨rS10, rB10, rC10, trivial⟩ ?_
    simp only [Act.put, List.setIfInBounds_toArray, List.set_cons_zero, List.set_cons_succ]
    refine h_one (i := 1) (by kernel_rfl) (o_call rfl 36 rfl (by kernel_rfl) (run_op_call 7 _ _ rfl #[.agg (scs c).toArray] (by simp only [List.map_toArray, List.map_cons, List.map_nil]; rfl) Tryd.func7 (by kernel_rfl) (by kernel_rfl) _) (CRC.out y10) ?_)
    rintro e y11 ⟨rfl, hB⟩
    have rS11 : Row y11 S 35 (scs s) := rS10.old hB
    have rB11 : Row y11 B 37 (gcs b) := rB10.old hB
    have rC11 : Row y11 C 35 (scs c) := rC10.old hB
    have bel11 : Below w.heap.size w y11 := below_step bel10 bel10.size hB
    clear hB rS10 rB10 rC10 bel10
    refine ⟨_, rfl, ⟨rS11, rB11, rC11, trivial⟩, ?_⟩
    simp only [Act.put, List.setIfInBounds_toArray, List.set_cons_zero, List.set_cons_succ]
    refine h_take 2 (.bool true) rfl 37 rfl (by kernel_rfl) (by kernel_rfl) (by kernel_rfl) (by kernel_rfl) (fun _ _ _ h => h) (fun w' _ => by kernel_rfl) ⟨rS11, rB11, rC11, trivial⟩ ?_
    simp only [Act.put, List.setIfInBounds_toArray, List.set_cons_zero, List.set_cons_succ]
    refine h_take 3 (.pointer (some ⟨C, 97, none⟩)) rfl 38 rfl (by kernel_rfl) (by kernel_rfl) (by kernel_rfl) (by kernel_rfl) (fun _ _ _ h => h) (fun w' _ => by kernel_rfl) ⟨rS11, rB11, rC11, trivial⟩ ?_
    simp only [Act.put, List.setIfInBounds_toArray, List.set_cons_zero, List.set_cons_succ]
    refine h_take 4 (num32 c.len) rfl 39 rfl (by kernel_rfl) (by kernel_rfl) (by kernel_rfl) (by kernel_rfl) (fun _ _ _ h => h) (fun w' hw => run_op_load1 _ _ rfl (.int .u32) (by kernel_rfl) rfl ⟨C, 97, none⟩ rfl (num32 c.len) (hw.2.2.1.cell (show Has (scs c) 97 [num32 c.len] from h_lngth KC.out).get)) ⟨rS11, rB11, rC11, trivial⟩ ?_
    simp only [Act.put, List.setIfInBounds_toArray, List.set_cons_zero, List.set_cons_succ]
    refine h_take 5 (.pointer (some ⟨S, 97, none⟩)) rfl 40 rfl (by kernel_rfl) (by kernel_rfl) (by kernel_rfl) (by kernel_rfl) (fun _ _ _ h => h) (fun w' _ => by kernel_rfl) ⟨rS11, rB11, rC11, trivial⟩ ?_
    simp only [Act.put, List.setIfInBounds_toArray, List.set_cons_zero, List.set_cons_succ]
    refine h_take 6 (num32 s.len) rfl 41 rfl (by kernel_rfl) (by kernel_rfl) (by kernel_rfl) (by kernel_rfl) (fun _ _ _ h => h) (fun w' hw => run_op_load1 _ _ rfl (.int .u32) (by kernel_rfl) rfl ⟨S, 97, none⟩ rfl (num32 s.len) (hw.1.cell (show Has (scs s) 97 [num32 s.len] from h_lngth OK.out).get)) ⟨rS11, rB11, rC11, trivial⟩ ?_
    simp only [Act.put, List.setIfInBounds_toArray, List.set_cons_zero, List.set_cons_succ]
    refine h_take 7 (.int .u32 ((s.len + 1 : Nat) : Int)) rfl 42 rfl (by kernel_rfl) (by kernel_rfl) (by kernel_rfl) (by kernel_rfl) (fun _ _ _ h => h) (fun w' _ => run_op_add32 _ _ _ _ rfl (s.len : Int) 1 _ rfl rfl HAD.out w') ⟨rS11, rB11, rC11, trivial⟩ ?_
    simp only [Act.put, List.setIfInBounds_toArray, List.set_cons_zero, List.set_cons_succ]
    refine h_take 8 (.bool true) rfl 43 rfl (by kernel_rfl) (by kernel_rfl) (by kernel_rfl) (by kernel_rfl) (fun _ _ _ h => h) (fun w' _ => cmp_eql _ _ .u32 (by kernel_rfl) _ _ rfl .u32 (c.len : Int) ((s.len + 1 : Nat) : Int) rfl rfl true HLN.out w') ⟨rS11, rB11, rC11, trivial⟩ ?_
    simp only [Act.put, List.setIfInBounds_toArray, List.set_cons_zero, List.set_cons_succ]
    refine h_take 9 (.bool true) rfl 44 rfl (by kernel_rfl) (by kernel_rfl) (by kernel_rfl) (by kernel_rfl) (fun _ _ _ h => h) (fun w' _ => by kernel_rfl) ⟨rS11, rB11, rC11, trivial⟩ ?_
    simp only [Act.put, List.setIfInBounds_toArray, List.set_cons_zero, List.set_cons_succ]
    refine h_take 10 (.bool true) rfl 45 rfl (by kernel_rfl) (by kernel_rfl) (by kernel_rfl) (by kernel_rfl) (fun _ _ _ h => h) (fun w' _ => by kernel_rfl) ⟨rS11, rB11, rC11, trivial⟩ ?_
    simp only [Act.put, List.setIfInBounds_toArray, List.set_cons_zero, List.set_cons_succ]
    refine h_take 11 (.pointer (some ⟨C, 96, none⟩)) rfl 46 rfl (by kernel_rfl) (by kernel_rfl) (by kernel_rfl) (by kernel_rfl) (fun _ _ _ h => h) (fun w' _ => by kernel_rfl) ⟨rS11, rB11, rC11, trivial⟩ ?_
    simp only [Act.put, List.setIfInBounds_toArray, List.set_cons_zero, List.set_cons_succ]
    refine h_take 12 (num32 c.slot) rfl 47 rfl (by kernel_rfl) (by kernel_rfl) (by kernel_rfl) (by kernel_rfl) (fun _ _ _ h => h) (fun w' hw => run_op_load1 _ _ rfl (.int .u32) (by kernel_rfl) rfl ⟨C, 96, none⟩ rfl (num32 c.slot) (hw.2.2.1.cell (show Has (scs c) 96 [num32 c.slot] from h_slt KC.out).get)) ⟨rS11, rB11, rC11, trivial⟩ ?_
    simp only [Act.put, List.setIfInBounds_toArray, List.set_cons_zero, List.set_cons_succ]
    refine h_take 13 (.pointer (some ⟨S, 96, none⟩)) rfl 48 rfl (by kernel_rfl) (by kernel_rfl) (by kernel_rfl) (by kernel_rfl) (fun _ _ _ h => h) (fun w' _ => by kernel_rfl) ⟨rS11, rB11, rC11, trivial⟩ ?_
    simp only [Act.put, List.setIfInBounds_toArray, List.set_cons_zero, List.set_cons_succ]
    refine h_take 14 (num32 s.slot) rfl 49 rfl (by kernel_rfl) (by kernel_rfl) (by kernel_rfl) (by kernel_rfl) (fun _ _ _ h => h) (fun w' hw => run_op_load1 _ _ rfl (.int .u32) (by kernel_rfl) rfl ⟨S, 96, none⟩ rfl (num32 s.slot) (hw.1.cell (show Has (scs s) 96 [num32 s.slot] from h_slt OK.out).get)) ⟨rS11, rB11, rC11, trivial⟩ ?_
    simp only [Act.put, List.setIfInBounds_toArray, List.set_cons_zero, List.set_cons_succ]
    refine h_take 15 (.bool true) rfl 50 rfl (by kernel_rfl) (by kernel_rfl) (by kernel_rfl) (by kernel_rfl) (fun _ _ _ h => h) (fun w' _ => cmp_gtr _ _ _ _ rfl .u32 (c.slot : Int) (s.slot : Int) rfl rfl true HGT.out w') ⟨rS11, rB11, rC11, trivial⟩ ?_
    simp only [Act.put, List.setIfInBounds_toArray, List.set_cons_zero, List.set_cons_succ]
    refine h_take 16 (.bool true) rfl 51 rfl (by kernel_rfl) (by kernel_rfl) (by kernel_rfl) (by kernel_rfl) (fun _ _ _ h => h) (fun w' _ => by kernel_rfl) ⟨rS11, rB11, rC11, trivial⟩ ?_
    simp only [Act.put, List.setIfInBounds_toArray, List.set_cons_zero, List.set_cons_succ]
    refine h_take 17 (.bool true) rfl 52 rfl (by kernel_rfl) (by kernel_rfl) (by kernel_rfl) (by kernel_rfl) (fun _ _ _ h => h) (fun w' _ => by kernel_rfl) ⟨rS11, rB11, rC11, trivial⟩ ?_
    simp only [Act.put, List.setIfInBounds_toArray, List.set_cons_zero, List.set_cons_succ]
    refine h_take 18 (.pointer (some ⟨C, 96, none⟩)) rfl 53 rfl (by kernel_rfl) (by kernel_rfl) (by kernel_rfl) (by kernel_rfl) (fun _ _ _ h => h) (fun w' _ => by kernel_rfl) ⟨rS11, rB11, rC11, trivial⟩ ?_
    simp only [Act.put, List.setIfInBounds_toArray, List.set_cons_zero, List.set_cons_succ]
    refine h_take 19 (num32 c.slot) rfl 54 rfl (by kernel_rfl) (by kernel_rfl) (by kernel_rfl) (by kernel_rfl) (fun _ _ _ h => h) (fun w' hw => run_op_load1 _ _ rfl (.int .u32) (by kernel_rfl) rfl ⟨C, 96, none⟩ rfl (num32 c.slot) (hw.2.2.1.cell (show Has (scs c) 96 [num32 c.slot] from h_slt KC.out).get)) ⟨rS11, rB11, rC11, trivial⟩ ?_
    simp only [Act.put, List.setIfInBounds_toArray, List.set_cons_zero, List.set_cons_succ]
    refine h_take 20 (.pointer (some ⟨B, 0, none⟩)) rfl 55 rfl (by kernel_rfl) (by kernel_rfl) (by kernel_rfl) (by kernel_rfl) (fun _ _ _ h => h) (fun w' _ => by kernel_rfl) ⟨rS11, rB11, rC11, trivial⟩ ?_
    simp only [Act.put, List.setIfInBounds_toArray, List.set_cons_zero, List.set_cons_succ]
    refine h_take 21 (num32 b.slot) rfl 56 rfl (by kernel_rfl) (by kernel_rfl) (by kernel_rfl) (by kernel_rfl) (fun _ _ _ h => h) (fun w' hw => run_op_load1 _ _ rfl (.int .u32) (by kernel_rfl) rfl ⟨B, 0, none⟩ rfl (num32 b.slot) (hw.2.1.cell (show Has (gcs b) 0 [num32 b.slot] from g0 b).get)) ⟨rS11, rB11, rC11, trivial⟩ ?_
    simp only [Act.put, List.setIfInBounds_toArray, List.set_cons_zero, List.set_cons_succ]
    refine h_take 22 (.bool true) rfl 57 rfl (by kernel_rfl) (by kernel_rfl) (by kernel_rfl) (by kernel_rfl) (fun _ _ _ h => h) (fun w' _ => cmp_eql _ _ .u32 (by kernel_rfl) _ _ rfl .u32 (c.slot : Int) (b.slot : Int) rfl rfl true HSL.out w') ⟨rS11, rB11, rC11, trivial⟩ ?_
    simp only [Act.put, List.setIfInBounds_toArray, List.set_cons_zero, List.set_cons_succ]
    refine h_take 23 (.bool true) rfl 58 rfl (by kernel_rfl) (by kernel_rfl) (by kernel_rfl) (by kernel_rfl) (fun _ _ _ h => h) (fun w' _ => by kernel_rfl) ⟨rS11, rB11, rC11, trivial⟩ ?_
    simp only [Act.put, List.setIfInBounds_toArray, List.set_cons_zero, List.set_cons_succ]
    refine h_take 24 (.bool true) rfl 59 rfl (by kernel_rfl) (by kernel_rfl) (by kernel_rfl) (by kernel_rfl) (fun _ _ _ h => h) (fun w' _ => by kernel_rfl) ⟨rS11, rB11, rC11, trivial⟩ ?_
    simp only [Act.put, List.setIfInBounds_toArray, List.set_cons_zero, List.set_cons_succ]
    refine h_take 25 (.pointer (some ⟨C, 0, none⟩)) rfl 60 rfl (by kernel_rfl) (by kernel_rfl) (by kernel_rfl) (by kernel_rfl) (fun _ _ _ h => h) (fun w' _ => by kernel_rfl) ⟨rS11, rB11, rC11, trivial⟩ ?_
    simp only [Act.put, List.setIfInBounds_toArray, List.set_cons_zero, List.set_cons_succ]
    refine h_take 26 (.agg (u8s dg).toArray) rfl 61 rfl (by kernel_rfl) (by kernel_rfl) (by kernel_rfl) (by kernel_rfl) (fun _ _ _ h => h) (fun w' hw => run_op_load _ _ rfl C 0 rfl (u8s dg) ((show Has (scs c) 0 (u8s dg) from HPV.out).range hw.2.2.1) (szH KD.out)) ⟨rS11, rB11, rC11, trivial⟩ ?_
    simp only [Act.put, List.setIfInBounds_toArray, List.set_cons_zero, List.set_cons_succ]
    refine h_take 27 (.agg (scs s).toArray) rfl 62 rfl (by kernel_rfl) (by kernel_rfl) (by kernel_rfl) (by kernel_rfl) (fun _ _ _ h => h) (fun w' hw => run_op_load _ _ rfl S 0 rfl (scs s) ((show Has (scs s) 0 (scs s) from Has.refl _).range hw.1) (sz_sta OK.out)) ⟨rS11, rB11, rC11, trivial⟩ ?_
    simp only [Act.put, List.setIfInBounds_toArray, List.set_cons_zero, List.set_cons_succ]
    refine h_one (i := 28) (by kernel_rfl) (o_call rfl 63 rfl (by kernel_rfl) (run_op_call 9 _ _ rfl #[.agg (scs s).toArray] (by simp only [List.map_toArray, List.map_cons, List.map_nil]; rfl) Tryd.func9 (by kernel_rfl) (by kernel_rfl) _) (CH.out y11 (HKW.out y11 bel11)) ?_)
    rintro e y12 ⟨rfl, hB⟩
    have rS12 : Row y12 S 35 (scs s) := rS11.old hB
    have rB12 : Row y12 B 37 (gcs b) := rB11.old hB
    have rC12 : Row y12 C 35 (scs c) := rC11.old hB
    have bel12 : Below w.heap.size w y12 := below_step bel11 bel11.size hB
    clear hB rS11 rB11 rC11 bel11
    refine ⟨_, rfl, ⟨rS12, rB12, rC12, trivial⟩, ?_⟩
    simp only [Act.put, List.setIfInBounds_toArray, List.set_cons_zero, List.set_cons_succ]
    refine h_take 29 (.bool true) rfl 64 rfl (by kernel_rfl) (by kernel_rfl) (by kernel_rfl) (by kernel_rfl) (fun _ _ _ h => h) (fun w' _ => run_op_eql _ _ _ rfl (dg) (KD.out.len) rfl rfl w') ⟨rS12, rB12, rC12, trivial⟩ ?_
    simp only [Act.put, List.setIfInBounds_toArray, List.set_cons_zero, List.set_cons_succ]
    refine h_take 30 (.bool true) rfl 65 rfl (by kernel_rfl) (by kernel_rfl) (by kernel_rfl) (by kernel_rfl) (fun _ _ _ h => h) (fun w' _ => by kernel_rfl) ⟨rS12, rB12, rC12, trivial⟩ ?_
    simp only [Act.put, List.setIfInBounds_toArray, List.set_cons_zero, List.set_cons_succ]
    refine h_take 31 (.bool true) rfl 66 rfl (by kernel_rfl) (by kernel_rfl) (by kernel_rfl) (by kernel_rfl) (fun _ _ _ h => h) (fun w' _ => by kernel_rfl) ⟨rS12, rB12, rC12, trivial⟩ ?_
    simp only [Act.put, List.setIfInBounds_toArray, List.set_cons_zero, List.set_cons_succ]
    refine h_take 32 (.pointer (some ⟨C, 32, none⟩)) rfl 67 rfl (by kernel_rfl) (by kernel_rfl) (by kernel_rfl) (by kernel_rfl) (fun _ _ _ h => h) (fun w' _ => by kernel_rfl) ⟨rS12, rB12, rC12, trivial⟩ ?_
    simp only [Act.put, List.setIfInBounds_toArray, List.set_cons_zero, List.set_cons_succ]
    refine h_take 33 (.agg (u8s b.led).toArray) rfl 68 rfl (by kernel_rfl) (by kernel_rfl) (by kernel_rfl) (by kernel_rfl) (fun _ _ _ h => h) (fun w' hw => run_op_load _ _ rfl C 32 rfl (u8s b.led) ((show Has (scs c) 32 (u8s b.led) from HLD.out).range hw.2.2.1) (szH KB.out.led)) ⟨rS12, rB12, rC12, trivial⟩ ?_
    simp only [Act.put, List.setIfInBounds_toArray, List.set_cons_zero, List.set_cons_succ]
    refine h_take 34 (.pointer (some ⟨B, 1, none⟩)) rfl 69 rfl (by kernel_rfl) (by kernel_rfl) (by kernel_rfl) (by kernel_rfl) (fun _ _ _ h => h) (fun w' _ => by kernel_rfl) ⟨rS12, rB12, rC12, trivial⟩ ?_
    simp only [Act.put, List.setIfInBounds_toArray, List.set_cons_zero, List.set_cons_succ]
    refine h_take 35 (.agg (u8s b.led).toArray) rfl 70 rfl (by kernel_rfl) (by kernel_rfl) (by kernel_rfl) (by kernel_rfl) (fun _ _ _ h => h) (fun w' hw => run_op_load _ _ rfl B 1 rfl (u8s b.led) ((show Has (gcs b) 1 (u8s b.led) from g1 b).range hw.2.1) (szH KB.out.led)) ⟨rS12, rB12, rC12, trivial⟩ ?_
    simp only [Act.put, List.setIfInBounds_toArray, List.set_cons_zero, List.set_cons_succ]
    refine h_take 36 (.bool true) rfl 71 rfl (by kernel_rfl) (by kernel_rfl) (by kernel_rfl) (by kernel_rfl) (fun _ _ _ h => h) (fun w' _ => run_op_eql _ _ _ rfl (b.led) (KB.out.led.len) rfl rfl w') ⟨rS12, rB12, rC12, trivial⟩ ?_
    simp only [Act.put, List.setIfInBounds_toArray, List.set_cons_zero, List.set_cons_succ]
    refine h_take 37 (.bool true) rfl 72 rfl (by kernel_rfl) (by kernel_rfl) (by kernel_rfl) (by kernel_rfl) (fun _ _ _ h => h) (fun w' _ => by kernel_rfl) ⟨rS12, rB12, rC12, trivial⟩ ?_
    simp only [Act.put, List.setIfInBounds_toArray, List.set_cons_zero, List.set_cons_succ]
    refine h_take 38 (.bool true) rfl 73 rfl (by kernel_rfl) (by kernel_rfl) (by kernel_rfl) (by kernel_rfl) (fun _ _ _ h => h) (fun w' _ => by kernel_rfl) ⟨rS12, rB12, rC12, trivial⟩ ?_
    simp only [Act.put, List.setIfInBounds_toArray, List.set_cons_zero, List.set_cons_succ]
    refine h_take 39 (.pointer (some ⟨C, 64, none⟩)) rfl 74 rfl (by kernel_rfl) (by kernel_rfl) (by kernel_rfl) (by kernel_rfl) (fun _ _ _ h => h) (fun w' _ => by kernel_rfl) ⟨rS12, rB12, rC12, trivial⟩ ?_
    simp only [Act.put, List.setIfInBounds_toArray, List.set_cons_zero, List.set_cons_succ]
    refine h_take 40 (.agg (u8s b.draw).toArray) rfl 75 rfl (by kernel_rfl) (by kernel_rfl) (by kernel_rfl) (by kernel_rfl) (fun _ _ _ h => h) (fun w' hw => run_op_load _ _ rfl C 64 rfl (u8s b.draw) ((show Has (scs c) 64 (u8s b.draw) from HDR.out).range hw.2.2.1) (szH KB.out.draw)) ⟨rS12, rB12, rC12, trivial⟩ ?_
    simp only [Act.put, List.setIfInBounds_toArray, List.set_cons_zero, List.set_cons_succ]
    refine h_take 41 (.pointer (some ⟨B, 33, none⟩)) rfl 76 rfl (by kernel_rfl) (by kernel_rfl) (by kernel_rfl) (by kernel_rfl) (fun _ _ _ h => h) (fun w' _ => by kernel_rfl) ⟨rS12, rB12, rC12, trivial⟩ ?_
    simp only [Act.put, List.setIfInBounds_toArray, List.set_cons_zero, List.set_cons_succ]
    refine h_take 42 (.agg (u8s b.draw).toArray) rfl 77 rfl (by kernel_rfl) (by kernel_rfl) (by kernel_rfl) (by kernel_rfl) (fun _ _ _ h => h) (fun w' hw => run_op_load _ _ rfl B 33 rfl (u8s b.draw) ((show Has (gcs b) 33 (u8s b.draw) from g33 KB.out).range hw.2.1) (szH KB.out.draw)) ⟨rS12, rB12, rC12, trivial⟩ ?_
    simp only [Act.put, List.setIfInBounds_toArray, List.set_cons_zero, List.set_cons_succ]
    refine h_take 43 (.bool true) rfl 78 rfl (by kernel_rfl) (by kernel_rfl) (by kernel_rfl) (by kernel_rfl) (fun _ _ _ h => h) (fun w' _ => run_op_eql _ _ _ rfl (b.draw) (KB.out.draw.len) rfl rfl w') ⟨rS12, rB12, rC12, trivial⟩ ?_
    simp only [Act.put, List.setIfInBounds_toArray, List.set_cons_zero, List.set_cons_succ]
    refine h_take 44 (.bool true) rfl 79 rfl (by kernel_rfl) (by kernel_rfl) (by kernel_rfl) (by kernel_rfl) (fun _ _ _ h => h) (fun w' _ => by kernel_rfl) ⟨rS12, rB12, rC12, trivial⟩ ?_
    simp only [Act.put, List.setIfInBounds_toArray, List.set_cons_zero, List.set_cons_succ]
    refine h_take 45 (.bool true) rfl 80 rfl (by kernel_rfl) (by kernel_rfl) (by kernel_rfl) (by kernel_rfl) (fun _ _ _ h => h) (fun w' _ => by kernel_rfl) ⟨rS12, rB12, rC12, trivial⟩ ?_
    simp only [Act.put, List.setIfInBounds_toArray, List.set_cons_zero, List.set_cons_succ]
    refine h_take 46 (.pointer (some ⟨C, 99, none⟩)) rfl 81 rfl (by kernel_rfl) (by kernel_rfl) (by kernel_rfl) (by kernel_rfl) (fun _ _ _ h => h) (fun w' _ => by kernel_rfl) ⟨rS12, rB12, rC12, trivial⟩ ?_
    simp only [Act.put, List.setIfInBounds_toArray, List.set_cons_zero, List.set_cons_succ]
    refine h_take 47 (.pointer (some ⟨C, 99, none⟩)) rfl 82 rfl (by kernel_rfl) (by kernel_rfl) (by kernel_rfl) (by kernel_rfl) (fun _ _ _ h => h) (fun w' _ => by kernel_rfl) ⟨rS12, rB12, rC12, trivial⟩ ?_
    simp only [Act.put, List.setIfInBounds_toArray, List.set_cons_zero, List.set_cons_succ]
    refine h_take 48 (num32 c.min) rfl 83 rfl (by kernel_rfl) (by kernel_rfl) (by kernel_rfl) (by kernel_rfl) (fun _ _ _ h => h) (fun w' hw => run_op_load1 _ _ rfl (.int .u32) (by kernel_rfl) rfl ⟨C, 99, none⟩ rfl (num32 c.min) (hw.2.2.1.cell (show Has (scs c) 99 [num32 c.min] from Has.head (s_win KC.out)).get)) ⟨rS12, rB12, rC12, trivial⟩ ?_
    simp only [Act.put, List.setIfInBounds_toArray, List.set_cons_zero, List.set_cons_succ]
    refine h_take 49 (.pointer (some ⟨S, 99, none⟩)) rfl 84 rfl (by kernel_rfl) (by kernel_rfl) (by kernel_rfl) (by kernel_rfl) (fun _ _ _ h => h) (fun w' _ => by kernel_rfl) ⟨rS12, rB12, rC12, trivial⟩ ?_
    simp only [Act.put, List.setIfInBounds_toArray, List.set_cons_zero, List.set_cons_succ]
    refine h_take 50 (.pointer (some ⟨S, 99, none⟩)) rfl 85 rfl (by kernel_rfl) (by kernel_rfl) (by kernel_rfl) (by kernel_rfl) (fun _ _ _ h => h) (fun w' _ => by kernel_rfl) ⟨rS12, rB12, rC12, trivial⟩ ?_
    simp only [Act.put, List.setIfInBounds_toArray, List.set_cons_zero, List.set_cons_succ]
    refine h_take 51 (num32 s.min) rfl 86 rfl (by kernel_rfl) (by kernel_rfl) (by kernel_rfl) (by kernel_rfl) (fun _ _ _ h => h) (fun w' hw => run_op_load1 _ _ rfl (.int .u32) (by kernel_rfl) rfl ⟨S, 99, none⟩ rfl (num32 s.min) (hw.1.cell (show Has (scs s) 99 [num32 s.min] from Has.head (s_win OK.out)).get)) ⟨rS12, rB12, rC12, trivial⟩ ?_
    simp only [Act.put, List.setIfInBounds_toArray, List.set_cons_zero, List.set_cons_succ]
    refine h_take 52 (.bool true) rfl 87 rfl (by kernel_rfl) (by kernel_rfl) (by kernel_rfl) (by kernel_rfl) (fun _ _ _ h => h) (fun w' _ => cmp_leq _ _ _ _ rfl .u32 (c.min : Int) (s.min : Int) rfl rfl true HMN.out w') ⟨rS12, rB12, rC12, trivial⟩ ?_
    simp only [Act.put, List.setIfInBounds_toArray, List.set_cons_zero, List.set_cons_succ]
    refine h_take 53 (.bool true) rfl 88 rfl (by kernel_rfl) (by kernel_rfl) (by kernel_rfl) (by kernel_rfl) (fun _ _ _ h => h) (fun w' _ => by kernel_rfl) ⟨rS12, rB12, rC12, trivial⟩ ?_
    simp only [Act.put, List.setIfInBounds_toArray, List.set_cons_zero, List.set_cons_succ]
    refine h_take 54 (.bool true) rfl 89 rfl (by kernel_rfl) (by kernel_rfl) (by kernel_rfl) (by kernel_rfl) (fun _ _ _ h => h) (fun w' _ => by kernel_rfl) ⟨rS12, rB12, rC12, trivial⟩ ?_
    simp only [Act.put, List.setIfInBounds_toArray, List.set_cons_zero, List.set_cons_succ]
    refine h_take 55 (.pointer (some ⟨C, 98, none⟩)) rfl 90 rfl (by kernel_rfl) (by kernel_rfl) (by kernel_rfl) (by kernel_rfl) (fun _ _ _ h => h) (fun w' _ => by kernel_rfl) ⟨rS12, rB12, rC12, trivial⟩ ?_
    simp only [Act.put, List.setIfInBounds_toArray, List.set_cons_zero, List.set_cons_succ]
    refine h_take 56 (num32 c.count) rfl 91 rfl (by kernel_rfl) (by kernel_rfl) (by kernel_rfl) (by kernel_rfl) (fun _ _ _ h => h) (fun w' hw => run_op_load1 _ _ rfl (.int .u32) (by kernel_rfl) rfl ⟨C, 98, none⟩ rfl (num32 c.count) (hw.2.2.1.cell (show Has (scs c) 98 [num32 c.count] from h_cnt KC.out).get)) ⟨rS12, rB12, rC12, trivial⟩ ?_
    simp only [Act.put, List.setIfInBounds_toArray, List.set_cons_zero, List.set_cons_succ]
    refine h_take 57 (.pointer (some ⟨S, 98, none⟩)) rfl 92 rfl (by kernel_rfl) (by kernel_rfl) (by kernel_rfl) (by kernel_rfl) (fun _ _ _ h => h) (fun w' _ => by kernel_rfl) ⟨rS12, rB12, rC12, trivial⟩ ?_
    simp only [Act.put, List.setIfInBounds_toArray, List.set_cons_zero, List.set_cons_succ]
    refine h_take 58 (num32 s.count) rfl 93 rfl (by kernel_rfl) (by kernel_rfl) (by kernel_rfl) (by kernel_rfl) (fun _ _ _ h => h) (fun w' hw => run_op_load1 _ _ rfl (.int .u32) (by kernel_rfl) rfl ⟨S, 98, none⟩ rfl (num32 s.count) (hw.1.cell (show Has (scs s) 98 [num32 s.count] from h_cnt OK.out).get)) ⟨rS12, rB12, rC12, trivial⟩ ?_
    simp only [Act.put, List.setIfInBounds_toArray, List.set_cons_zero, List.set_cons_succ]
    refine h_take 59 (.bool false) rfl 94 rfl (by kernel_rfl) (by kernel_rfl) (by kernel_rfl) (by kernel_rfl) (fun _ _ _ h => h) (fun w' _ => cmp_eql _ _ .u32 (by kernel_rfl) _ _ rfl .u32 (c.count : Int) (s.count : Int) rfl rfl false HC.out w') ⟨rS12, rB12, rC12, trivial⟩ ?_
    simp only [Act.put, List.setIfInBounds_toArray, List.set_cons_zero, List.set_cons_succ]
    refine h_take 60 (.bool false) rfl 95 rfl (by kernel_rfl) (by kernel_rfl) (by kernel_rfl) (by kernel_rfl) (fun _ _ _ h => h) (fun w' _ => by kernel_rfl) ⟨rS12, rB12, rC12, trivial⟩ ?_
    simp only [Act.put, List.setIfInBounds_toArray, List.set_cons_zero, List.set_cons_succ]
    refine h_take 61 (.pointer (some ⟨C, 98, none⟩)) rfl 96 rfl (by kernel_rfl) (by kernel_rfl) (by kernel_rfl) (by kernel_rfl) (fun _ _ _ h => h) (fun w' _ => by kernel_rfl) ⟨rS12, rB12, rC12, trivial⟩ ?_
    simp only [Act.put, List.setIfInBounds_toArray, List.set_cons_zero, List.set_cons_succ]
    refine h_take 62 (num32 c.count) rfl 97 rfl (by kernel_rfl) (by kernel_rfl) (by kernel_rfl) (by kernel_rfl) (fun _ _ _ h => h) (fun w' hw => run_op_load1 _ _ rfl (.int .u32) (by kernel_rfl) rfl ⟨C, 98, none⟩ rfl (num32 c.count) (hw.2.2.1.cell (show Has (scs c) 98 [num32 c.count] from h_cnt KC.out).get)) ⟨rS12, rB12, rC12, trivial⟩ ?_
    simp only [Act.put, List.setIfInBounds_toArray, List.set_cons_zero, List.set_cons_succ]
    refine h_take 63 (.pointer (some ⟨S, 98, none⟩)) rfl 98 rfl (by kernel_rfl) (by kernel_rfl) (by kernel_rfl) (by kernel_rfl) (fun _ _ _ h => h) (fun w' _ => by kernel_rfl) ⟨rS12, rB12, rC12, trivial⟩ ?_
    simp only [Act.put, List.setIfInBounds_toArray, List.set_cons_zero, List.set_cons_succ]
    refine h_take 64 (num32 s.count) rfl 99 rfl (by kernel_rfl) (by kernel_rfl) (by kernel_rfl) (by kernel_rfl) (fun _ _ _ h => h) (fun w' hw => run_op_load1 _ _ rfl (.int .u32) (by kernel_rfl) rfl ⟨S, 98, none⟩ rfl (num32 s.count) (hw.1.cell (show Has (scs s) 98 [num32 s.count] from h_cnt OK.out).get)) ⟨rS12, rB12, rC12, trivial⟩ ?_
    simp only [Act.put, List.setIfInBounds_toArray, List.set_cons_zero, List.set_cons_succ]
    refine h_take 65 (.int .u32 ((s.count + 1 : Nat) : Int)) rfl 100 rfl (by kernel_rfl) (by kernel_rfl) (by kernel_rfl) (by kernel_rfl) (fun _ _ _ h => h) (fun w' _ => run_op_add32 _ _ _ _ rfl (s.count : Int) 1 _ rfl rfl HA.out w') ⟨rS12, rB12, rC12, trivial⟩ ?_
    simp only [Act.put, List.setIfInBounds_toArray, List.set_cons_zero, List.set_cons_succ]
    refine h_take 66 (.bool true) rfl 101 rfl (by kernel_rfl) (by kernel_rfl) (by kernel_rfl) (by kernel_rfl) (fun _ _ _ h => h) (fun w' _ => cmp_eql _ _ .u32 (by kernel_rfl) _ _ rfl .u32 (c.count : Int) ((s.count + 1 : Nat) : Int) rfl rfl true HD.out w') ⟨rS12, rB12, rC12, trivial⟩ ?_
    simp only [Act.put, List.setIfInBounds_toArray, List.set_cons_zero, List.set_cons_succ]
    refine h_take 67 (.bool true) rfl 102 rfl (by kernel_rfl) (by kernel_rfl) (by kernel_rfl) (by kernel_rfl) (fun _ _ _ h => h) (fun w' _ => by kernel_rfl) ⟨rS12, rB12, rC12, trivial⟩ ?_
    simp only [Act.put, List.setIfInBounds_toArray, List.set_cons_zero, List.set_cons_succ]
    refine h_take 68 (.bool true) rfl 103 rfl (by kernel_rfl) (by kernel_rfl) (by kernel_rfl) (by kernel_rfl) (fun _ _ _ h => h) (fun w' _ => by kernel_rfl) ⟨rS12, rB12, rC12, trivial⟩ ?_
    simp only [Act.put, List.setIfInBounds_toArray, List.set_cons_zero, List.set_cons_succ]
    refine h_take 69 (.bool true) rfl 4 rfl (by kernel_rfl) (by kernel_rfl) (by kernel_rfl) (by kernel_rfl) (fun _ _ _ h => h) (fun w' _ => by kernel_rfl) ⟨rS12, rB12, rC12, trivial⟩ ?_
    simp only [Act.put, List.setIfInBounds_toArray, List.set_cons_zero, List.set_cons_succ]
    refine wpAnyH_done (by kernel_rfl) ?_ _
    go_wp2_with fail
    go_ret
    exact ⟨rfl, bel12⟩
theorem growRight_any (s : Sta) (b : Gb) (w : World) (ok : s.Ok) (kb : b.Ok) (hk : w.rangeAt 1 0 (u32s ks)) :
    Calls Tryd.prog 3 #[.agg (scs s).toArray, .agg (gcs b).toArray] w fun e w' => e = .returned (.bool true) ∧ Below w.heap.size w w' := by
  by_cases hr : SRt s
  · by_cases hz : chE s b = 0
    · exact growRight_fine s b w ok kb hk hr (chE_zero.1 hz)
    · exact growRight_bad s b w ok kb hk hr hz
  · exact growRight_not s b w ok kb hk hr
end Go.Proofs.YtmohlcmhogbkjaaDoor.Gr
