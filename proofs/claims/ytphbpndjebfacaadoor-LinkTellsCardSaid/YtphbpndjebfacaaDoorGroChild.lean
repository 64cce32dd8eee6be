/-
  The contract of package grow's Child. Over this seat's translation.
-/
import Derived.Test.YtphbpndjebfacaaDoorGroSpec
import Derived.Test.YtphbpndjebfacaaDoorEpoAll
import Derived.Test.YtphbpndjebfacaaDoorWinAll
namespace Go.Proofs.YtphbpndjebfacaaDoor.Gr
open Go.ChangeShapes Go.WideShapes Go.ChangeAt Go.RowKit Go.Proofs.YtphbpndjebfacaaDoor.Mem Go.Proofs.YtphbpndjebfacaaDoor.Bt Go.Proofs.YtphbpndjebfacaaDoor.Rg Go.Proofs.YtphbpndjebfacaaDoor.Wn Go.Proofs.YtphbpndjebfacaaDoor.Sa Go.Proofs.YtphbpndjebfacaaDoor.Sha
open Go.Proofs.YtphbpndjebfacaaDoor.Ep (H32 Dat Blk zh zh_ok num32 zd zd_ok Has h_len one_app one_num szH zH fitH allH ansC ansN ansE fitP allP z_pair sz_pair built_blk)
set_option linter.unusedVariables false
set_option linter.unusedSimpArgs false

set_option maxHeartbeats 4000000 in
set_option maxRecDepth 100000 in
theorem child_any (s : Sta) (b : Gb) (w : World) (ok : s.Ok) (rt : SRt s) (kb : b.Ok) (hk : w.rangeAt 0 0 (u32s ks)) :
    Calls Tryd.prog 14 #[.agg (scs s).toArray, .agg (gcs b).toArray] w fun e w' => e = .returned (.tuple #[.agg (scs (chS s b)).toArray, .int .i64 (chE s b)]) ∧ Below w.heap.size w w' := by
  have hk1 : 0 < w.heap.size := range_lt hk (by simp [u32s, ks])
  have HKW : Hid (∀ w', Below w.heap.size w w' → w'.rangeAt 0 0 (u32s ks)) := Lib.hid fun w' hb => range_block hk (hb.block _ hk1)
  have OK := Lib.hid ok; have KB := Lib.hid kb
  have CH := Lib.hid (fun w0 h => shash_any s w0 ok h)
  have CA1 := Lib.hid (fun w0 => added_any s.len 1 w0 ok.len (by omega))
  have CE := Lib.hid (fun w0 => entered_any s.slot b.slot w0 ok.slot kb.slot)
  have hen := entN_le s.slot b.slot
  have CA2 := Lib.hid (fun w0 => added_any s.count (entN s.slot b.slot) w0 ok.count (by omega))
  have CW := Lib.hid (fun w0 => wput_any s.min s.last b.slot s.counts w0 ok.min ok.last kb.slot rt.1.2 ok.counts)
  have CF := Lib.hid (fun w0 h => Ep.follow_any s.now s.next (blkOf s b) w0 ok.now ok.next (blkOf_ok ok kb) h)
  have CB := Lib.hid (fun w0 => behind_any s.slot b.slot w0 ok.slot kb.slot)
  have C1 := Lib.hid (fun w0 B (h : Row w0 B 48 [.int .i64 (behE s.slot b.slot), .int .i64 (addE s.len 1), .int .i64 (addE s.count (entN s.slot b.slot)), .int .i64 (putE s.last s.counts (b.slot / 3)), .int .i64 (ansE s.next (blkOf s b))]) => first_five _ _ _ _ _ B w0 h)
  have hE : chE s b = firstE [behE s.slot b.slot, addE s.len 1, addE s.count (entN s.slot b.slot), putE s.last s.counts (b.slot / 3), ansE s.next (blkOf s b)] := rfl
  have HS : Hid (chE s b = 0 → chS s b = grown s b) := Lib.hid fun h => if_pos h
  have HZ : Hid (chE s b ≠ 0 → chS s b = zs) := Lib.hid fun h => if_neg h
  have KG := Lib.hid (grown_ok ok rt kb)
  have BG : Hid (Tryd.prog.built 35 [(0, .agg (u8s (digS s)).toArray), (1, .agg (u8s b.led).toArray), (2, .agg (u8s b.draw).toArray), (3, num32 b.slot), (4, num32 (addV s.len 1)), (5, num32 (addV s.count (entN s.slot b.slot))), (6, .agg (wcs (putM s.min s.last s.counts b.slot) (putL s.last s.counts (b.slot / 3)) (putC s.last s.counts (b.slot / 3))).toArray), (7, .agg (Ep.pcs (ansC s.now s.next (blkOf s b)) (ansN s.next (blkOf s b))).toArray)] = some (scs (grown s b)).toArray) := Lib.hid (built_grown (grown_ok ok rt kb))
  have BB : Hid (Tryd.prog.built 82 [(0, num32 s.slot), (1, num32 b.slot), (2, .agg (u8s (digS s)).toArray), (3, .agg (u8s s.led).toArray), (4, .agg (u8s b.draw).toArray)] = some (Ep.bcs (blkOf s b)).toArray) := Lib.hid (built_blkOf (blkOf_ok ok kb))
  have KD := Lib.hid (digS_ok s)
  have KC := Lib.hid (Ep.ansC_ok (b := blkOf s b) ok.now ok.next)
  have KN := Lib.hid (Ep.ansN_ok (b := blkOf s b) ok.next (blkOf_ok ok kb))
  have HCL := Lib.hid (putC_len s.last s.counts (b.slot / 3))
  rw [← hE] at C1
  clear hE hen
  generalize chE s b = z at C1 HS HZ ⊢
  generalize chS s b = r at HS HZ ⊢
  generalize grown s b = g at HS KG BG
  generalize blkOf s b = bk at CF C1 KC KN BG BB
  generalize digS s = dg at CH BG BB KD
  generalize addV s.len 1 = lv at CA1 BG
  generalize addE s.len 1 = le at CA1 C1
  generalize addV s.count (entN s.slot b.slot) = cv at CA2 BG
  generalize addE s.count (entN s.slot b.slot) = ce at CA2 C1
  generalize entN s.slot b.slot = en at CE CA2
  generalize putM s.min s.last s.counts b.slot = pm at CW BG
  generalize putL s.last s.counts (b.slot / 3) = pl at CW BG
  generalize putC s.last s.counts (b.slot / 3) = pc at CW BG HCL
  generalize putE s.last s.counts (b.slot / 3) = pe at CW C1
  generalize ansC s.now s.next bk = ac at CF BG KC
  generalize ansN s.next bk = an at CF BG KN
  generalize ansE s.next bk = ae at CF C1
  generalize behE s.slot b.slot = be at CB C1
  clear ok rt kb hk hk1
  go_enter Tryd.func14, Tryd.ntmps14
  go_wp2_with (first
    | ((with_reducible refine at_slot 2 ?_); (refine arm_box (o := ⟨some 2, _, _, _, _, _⟩) rfl _ _ rfl (scs s) rfl ?_); intro S v1 Se hv1 nv1)
    | ((with_reducible refine at_slot 3 ?_); (refine arm_box (o := ⟨some 3, _, _, _, _, _⟩) rfl _ _ rfl (gcs b) rfl ?_); intro B v2 Be hv2 nv2)
    | ((with_reducible refine at_slot 4 ?_); (refine arm_alloc (o := ⟨some 4, _, _, _, _, _⟩) rfl _ rfl (scs zs) z_sta ?_); intro R v3 Re hv3 nv3)
    | ((with_reducible refine at_slot 16 ?_); (refine arm_load (o := ⟨some 16, _, _, _, _, _⟩) rfl _ _ rfl S 0 rfl (scs s) ((show Has (scs s) 0 (scs s) from Has.refl _).range (((hv1.old nv2.below).old nv3.below))) (sz_sta OK.out) ?_)))
  have q0 := Se.out
  have q1 := nv1.size
  have q2 := Be.out
  have q3 := nv2.size
  have q4 := Re.out
  have q5 := nv3.size
  have lS : w.heap.size ≤ S := by omega
  have lB : w.heap.size ≤ B := by omega
  have nSB : S ≠ B := by omega
  have nBS : B ≠ S := by omega
  have lR : w.heap.size ≤ R := by omega
  have nSR : S ≠ R := by omega
  have nRS : R ≠ S := by omega
  have nBR : B ≠ R := by omega
  have nRB : R ≠ B := by omega
  have rS4 : Row v3 S 35 (scs s) := ((hv1.old nv2.below).old nv3.below)
  have rB4 : Row v3 B 57 (gcs b) := (hv2.old nv3.below)
  have rR4 : Row v3 R 35 (scs zs) := hv3
  have bel4 : Below w.heap.size w v3 := (below_step (below_step (below_step (Below.refl _ _) (by omega) nv1.below) (by omega) nv2.below) (by omega) nv3.below)
  clear q0 q1 q2 q3 q4 q5 Se hv1 nv1 Be hv2 nv2 Re hv3 nv3
  refine (CH.out _ (HKW.out _ bel4)).mono ?_
  rintro e y5 ⟨rfl, hB⟩
  have rS5 : Row y5 S 35 (scs s) := rS4.old hB
  have rB5 : Row y5 B 57 (gcs b) := rB4.old hB
  have rR5 : Row y5 R 35 (scs zs) := rR4.old hB
  have bel5 : Below w.heap.size w y5 := below_step bel4 bel4.size hB
  clear hB rS4 rB4 rR4 bel4
  go_wp2_with (first
    | ((with_reducible refine at_slot 6 ?_); (refine arm_alloc (o := ⟨some 6, _, _, _, _, _⟩) rfl _ rfl (u8s zh) zH ?_); intro P v6 Pe hv6 nv6)
    | ((with_reducible refine arm_store (o := ⟨none, _, _, _, _, _⟩) rfl _ _ _ rfl P 0 rfl (u8s dg) rfl _ _ (hv6) (fitH KD.out) (u8s_one _) (szH KD.out) ?_); intro v7 hv7 ov7 sv7)
    | ((with_reducible refine at_slot 20 ?_); (refine arm_want (num32 s.len) 20 rfl (by kernel_rfl) (run_op_load1 _ _ rfl (.int .u32) (by kernel_rfl) rfl ⟨S, 97, none⟩ rfl (num32 s.len) (((rS5.old nv6.below).only ov7 (by have := rS5.lt; have := Pe.out; have := nv6.size; have := sv7.out; omega)).cell (show Has (scs s) 97 [num32 s.len] from h_lngth OK.out).get)) ?_)))
  have q0 := Pe.out
  have q1 := nv6.size
  have q2 := sv7.out
  have q3 := rS5.lt
  have q4 := rB5.lt
  have q5 := rR5.lt
  have q6 := bel5.size
  have lP : w.heap.size ≤ P := by omega
  have nSP : S ≠ P := by omega
  have nPS : P ≠ S := by omega
  have nBP : B ≠ P := by omega
  have nPB : P ≠ B := by omega
  have nRP : R ≠ P := by omega
  have nPR : P ≠ R := by omega
  have rS8 : Row v7 S 35 (scs s) := ((rS5.old nv6.below).only ov7 nSP)
  have rB8 : Row v7 B 57 (gcs b) := ((rB5.old nv6.below).only ov7 nBP)
  have rR8 : Row v7 R 35 (scs zs) := ((rR5.old nv6.below).only ov7 nRP)
  have rP8 : Row v7 P 23 (u8s dg) := (hv7.congr (allH KD.out))
  have bel8 : Below w.heap.size w v7 := (below_only (below_step bel5 (by omega) nv6.below) ov7 lP (by omega))
  clear q0 q1 q2 q3 q4 q5 q6 rS5 rB5 rR5 bel5 Pe hv6 nv6 hv7 ov7 sv7
  refine (CA1.out _).mono ?_
  rintro e y9 ⟨rfl, hB⟩
  have rS9 : Row y9 S 35 (scs s) := rS8.old hB
  have rB9 : Row y9 B 57 (gcs b) := rB8.old hB
  have rR9 : Row y9 R 35 (scs zs) := rR8.old hB
  have rP9 : Row y9 P 23 (u8s dg) := rP8.old hB
  have bel9 : Below w.heap.size w y9 := below_step bel8 bel8.size hB
  clear hB rS8 rB8 rR8 rP8 bel8
  go_wp2_with fail
  refine wp_region_held (S := fun w' => Row w' S 35 (scs s) ∧ Row w' B 57 (gcs b) ∧ True) (by kernel_rfl) ?_
  change wpAnyH _ _ _ _ _ _ _ _ y9.drew
  have rS10 : Row y9.drew S 35 (scs s) := rS9
  have rB10 : Row y9.drew B 57 (gcs b) := rB9
  have rR10 : Row y9.drew R 35 (scs zs) := rR9
  have rP10 : Row y9.drew P 23 (u8s dg) := rP9
  have bel10 : Below w.heap.size w y9.drew := bel9.trans ((Below.refl _ _).drew)
  clear rS9 rB9 rR9 rP9 bel9
  generalize y9.drew = y10 at rS10 rB10 rR10 rP10 bel10 ⊢
  refine h_take 0 (.pointer (some ⟨S, 98, none⟩)) rfl 25 rfl (by kernel_rfl) (by kernel_rfl) (by kernel_rfl) (by kernel_rfl) (fun _ _ _ h => h) (fun w' _ => by kernel_rfl) ⟨rS10, rB10, trivial⟩ ?_
  simp only [Act.put, List.setIfInBounds_toArray, List.set_cons_zero, List.set_cons_succ]
  refine h_take 1 (num32 s.count) rfl 26 rfl (by kernel_rfl) (by kernel_rfl) (by kernel_rfl) (by kernel_rfl) (fun _ _ _ h => h) (fun w' hw => run_op_load1 _ _ rfl (.int .u32) (by kernel_rfl) rfl ⟨S, 98, none⟩ rfl (num32 s.count) (hw.1.cell (show Has (scs s) 98 [num32 s.count] from h_cnt OK.out).get)) ⟨rS10, rB10, trivial⟩ ?_
  simp only [Act.put, List.setIfInBounds_toArray, List.set_cons_zero, List.set_cons_succ]
  refine h_take 2 (.pointer (some ⟨S, 96, none⟩)) rfl 27 rfl (by kernel_rfl) (by kernel_rfl) (by kernel_rfl) (by kernel_rfl) (fun _ _ _ h => h) (fun w' _ => by kernel_rfl) ⟨rS10, rB10, trivial⟩ ?_
  simp only [Act.put, List.setIfInBounds_toArray, List.set_cons_zero, List.set_cons_succ]
  refine h_take 3 (num32 s.slot) rfl 28 rfl (by kernel_rfl) (by kernel_rfl) (by kernel_rfl) (by kernel_rfl) (fun _ _ _ h => h) (fun w' hw => run_op_load1 _ _ rfl (.int .u32) (by kernel_rfl) rfl ⟨S, 96, none⟩ rfl (num32 s.slot) (hw.1.cell (show Has (scs s) 96 [num32 s.slot] from h_slt OK.out).get)) ⟨rS10, rB10, trivial⟩ ?_
  simp only [Act.put, List.setIfInBounds_toArray, List.set_cons_zero, List.set_cons_succ]
  refine h_take 4 (.pointer (some ⟨B, 0, none⟩)) rfl 29 rfl (by kernel_rfl) (by kernel_rfl) (by kernel_rfl) (by kernel_rfl) (fun _ _ _ h => h) (fun w' _ => by kernel_rfl) ⟨rS10, rB10, trivial⟩ ?_
  simp only [Act.put, List.setIfInBounds_toArray, List.set_cons_zero, List.set_cons_succ]
  refine h_take 5 (num32 b.slot) rfl 30 rfl (by kernel_rfl) (by kernel_rfl) (by kernel_rfl) (by kernel_rfl) (fun _ _ _ h => h) (fun w' hw => run_op_load1 _ _ rfl (.int .u32) (by kernel_rfl) rfl ⟨B, 0, none⟩ rfl (num32 b.slot) (hw.2.1.cell (show Has (gcs b) 0 [num32 b.slot] from g0 b).get)) ⟨rS10, rB10, trivial⟩ ?_
  simp only [Act.put, List.setIfInBounds_toArray, List.set_cons_zero, List.set_cons_succ]
  refine h_one (i := 6) (by kernel_rfl) (o_call rfl 31 rfl (by kernel_rfl) (run_op_call 28 _ _ rfl #[.int .u32 (s.slot : Int), .int .u32 (b.slot : Int)] (by simp only [List.map_toArray, List.map_cons, List.map_nil]; rfl) Tryd.func28 (by kernel_rfl) (by kernel_rfl) _) (CE.out y10) ?_)
  rintro e y11 ⟨rfl, hB⟩
  have rS11 : Row y11 S 35 (scs s) := rS10.old hB
  have rB11 : Row y11 B 57 (gcs b) := rB10.old hB
  have rR11 : Row y11 R 35 (scs zs) := rR10.old hB
  have rP11 : Row y11 P 23 (u8s dg) := rP10.old hB
  have bel11 : Below w.heap.size w y11 := below_step bel10 bel10.size hB
  clear hB rS10 rB10 rR10 rP10 bel10
  refine ⟨_, rfl, ⟨rS11, rB11, trivial⟩, ?_⟩
  simp only [Act.put, List.setIfInBounds_toArray, List.set_cons_zero, List.set_cons_succ]
  refine h_one (i := 7) (by kernel_rfl) (o_call rfl 32 rfl (by kernel_rfl) (run_op_call 27 _ _ rfl #[.int .u32 (s.count : Int), .int .u32 (en : Int)] (by simp only [List.map_toArray, List.map_cons, List.map_nil]; rfl) Tryd.func27 (by kernel_rfl) (by kernel_rfl) _) (CA2.out y11) ?_)
  rintro e y12 ⟨rfl, hB⟩
  have rS12 : Row y12 S 35 (scs s) := rS11.old hB
  have rB12 : Row y12 B 57 (gcs b) := rB11.old hB
  have rR12 : Row y12 R 35 (scs zs) := rR11.old hB
  have rP12 : Row y12 P 23 (u8s dg) := rP11.old hB
  have bel12 : Below w.heap.size w y12 := below_step bel11 bel11.size hB
  clear hB rS11 rB11 rR11 rP11 bel11
  refine ⟨_, rfl, ⟨rS12, rB12, trivial⟩, ?_⟩
  simp only [Act.put, List.setIfInBounds_toArray, List.set_cons_zero, List.set_cons_succ]
  refine h_take 8 (.tuple #[.int .u32 (cv : Int), .int .i64 ce]) rfl 24 rfl (by kernel_rfl) (by kernel_rfl) (by kernel_rfl) (by kernel_rfl) (fun _ _ _ h => h) (fun w' _ => by kernel_rfl) ⟨rS12, rB12, trivial⟩ ?_
  simp only [Act.put, List.setIfInBounds_toArray, List.set_cons_zero, List.set_cons_succ]
  refine h_take 9 (.int .u32 (cv : Int)) rfl 33 rfl (by kernel_rfl) (by kernel_rfl) (by kernel_rfl) (by kernel_rfl) (fun _ _ _ h => h) (fun w' _ => by kernel_rfl) ⟨rS12, rB12, trivial⟩ ?_
  simp only [Act.put, List.setIfInBounds_toArray, List.set_cons_zero, List.set_cons_succ]
  refine h_take 10 (.int .i64 ce) rfl 34 rfl (by kernel_rfl) (by kernel_rfl) (by kernel_rfl) (by kernel_rfl) (fun _ _ _ h => h) (fun w' _ => by kernel_rfl) ⟨rS12, rB12, trivial⟩ ?_
  simp only [Act.put, List.setIfInBounds_toArray, List.set_cons_zero, List.set_cons_succ]
  refine h_take 11 (.int .u32 (cv : Int)) rfl 9 rfl (by kernel_rfl) (by kernel_rfl) (by kernel_rfl) (by kernel_rfl) (fun _ _ _ h => h) (fun w' _ => by kernel_rfl) ⟨rS12, rB12, trivial⟩ ?_
  simp only [Act.put, List.setIfInBounds_toArray, List.set_cons_zero, List.set_cons_succ]
  refine h_take 12 (.int .i64 ce) rfl 10 rfl (by kernel_rfl) (by kernel_rfl) (by kernel_rfl) (by kernel_rfl) (fun _ _ _ h => h) (fun w' _ => by kernel_rfl) ⟨rS12, rB12, trivial⟩ ?_
  simp only [Act.put, List.setIfInBounds_toArray, List.set_cons_zero, List.set_cons_succ]
  refine wpAnyH_done (by kernel_rfl) ?_ _
  go_wp2_with (first
    | ((with_reducible refine at_slot 37 ?_); (refine arm_load (o := ⟨some 37, _, _, _, _, _⟩) rfl _ _ rfl S 99 rfl (Wn.wcs s.min s.last s.counts) ((show Has (scs s) 99 (Wn.wcs s.min s.last s.counts) from s_win OK.out).range (rS12)) (sz_win OK.out.counts) ?_))
    | ((with_reducible refine at_slot 39 ?_); (refine arm_want (num32 b.slot) 39 rfl (by kernel_rfl) (run_op_load1 _ _ rfl (.int .u32) (by kernel_rfl) rfl ⟨B, 0, none⟩ rfl (num32 b.slot) (rB12.cell (show Has (gcs b) 0 [num32 b.slot] from g0 b).get)) ?_)))
  refine (CW.out _).mono ?_
  rintro e y13 ⟨rfl, hB⟩
  have rS13 : Row y13 S 35 (scs s) := rS12.old hB
  have rB13 : Row y13 B 57 (gcs b) := rB12.old hB
  have rR13 : Row y13 R 35 (scs zs) := rR12.old hB
  have rP13 : Row y13 P 23 (u8s dg) := rP12.old hB
  have bel13 : Below w.heap.size w y13 := below_step bel12 bel12.size hB
  clear hB rS12 rB12 rR12 rP12 bel12
  go_wp2_with (first
    | ((with_reducible refine at_slot 11 ?_); (refine arm_alloc (o := ⟨some 11, _, _, _, _, _⟩) rfl _ rfl (wcs 0 0 [0, 0, 0, 0]) z_win ?_); intro V v14 Ve hv14 nv14)
    | ((with_reducible refine arm_store (o := ⟨none, _, _, _, _, _⟩) rfl _ _ _ rfl V 0 rfl (wcs pm pl pc) rfl _ _ (hv14) (fit6 HCL.out) (wcs_one _ _ _) (sz_win HCL.out) ?_); intro v15 hv15 ov15 sv15)
    | ((with_reducible refine at_slot 45 ?_); (refine arm_load (o := ⟨some 45, _, _, _, _, _⟩) rfl _ _ rfl S 105 rfl (Ep.pcs s.now s.next) ((show Has (scs s) 105 (Ep.pcs s.now s.next) from s_eps OK.out).range (((rS13.old nv14.below).only ov15 (by have := rS13.lt; have := Ve.out; have := nv14.size; have := sv15.out; omega)))) (sz_pair OK.out.now OK.out.next) ?_))
    | ((with_reducible refine at_slot 47 ?_); (refine arm_want (num32 s.slot) 47 rfl (by kernel_rfl) (run_op_load1 _ _ rfl (.int .u32) (by kernel_rfl) rfl ⟨S, 96, none⟩ rfl (num32 s.slot) (((rS13.old nv14.below).only ov15 (by have := rS13.lt; have := Ve.out; have := nv14.size; have := sv15.out; omega)).cell (show Has (scs s) 96 [num32 s.slot] from h_slt OK.out).get)) ?_))
    | ((with_reducible refine at_slot 49 ?_); (refine arm_want (num32 b.slot) 49 rfl (by kernel_rfl) (run_op_load1 _ _ rfl (.int .u32) (by kernel_rfl) rfl ⟨B, 0, none⟩ rfl (num32 b.slot) (((rB13.old nv14.below).only ov15 (by have := rB13.lt; have := Ve.out; have := nv14.size; have := sv15.out; omega)).cell (show Has (gcs b) 0 [num32 b.slot] from g0 b).get)) ?_))
    | ((with_reducible refine at_slot 50 ?_); (refine arm_load (o := ⟨some 50, _, _, _, _, _⟩) rfl _ _ rfl P 0 rfl (u8s dg) ((show Has (u8s dg) 0 (u8s dg) from Has.refl _).range (((rP13.old nv14.below).only ov15 (by have := rP13.lt; have := Ve.out; have := nv14.size; have := sv15.out; omega)))) (szH KD.out) ?_))
    | ((with_reducible refine at_slot 52 ?_); (refine arm_load (o := ⟨some 52, _, _, _, _, _⟩) rfl _ _ rfl S 32 rfl (u8s s.led) ((show Has (scs s) 32 (u8s s.led) from h_ledg OK.out).range (((rS13.old nv14.below).only ov15 (by have := rS13.lt; have := Ve.out; have := nv14.size; have := sv15.out; omega)))) (szH OK.out.led) ?_))
    | ((with_reducible refine at_slot 54 ?_); (refine arm_load (o := ⟨some 54, _, _, _, _, _⟩) rfl _ _ rfl B 33 rfl (u8s b.draw) ((show Has (gcs b) 33 (u8s b.draw) from g33 KB.out).range (((rB13.old nv14.below).only ov15 (by have := rB13.lt; have := Ve.out; have := nv14.size; have := sv15.out; omega)))) (szH KB.out.draw) ?_))
    | ((with_reducible refine at_slot 55 ?_); (refine arm_build (o := ⟨some 55, _, _, _, _, _⟩) rfl _ _ rfl (Ep.bcs bk) (by simp only [List.map_toArray, List.map_cons, List.map_nil]; exact BB.out) ?_)))
  have q0 := Ve.out
  have q1 := nv14.size
  have q2 := sv15.out
  have q3 := rS13.lt
  have q4 := rB13.lt
  have q5 := rR13.lt
  have q6 := rP13.lt
  have q7 := bel13.size
  have lV : w.heap.size ≤ V := by omega
  have nSV : S ≠ V := by omega
  have nVS : V ≠ S := by omega
  have nBV : B ≠ V := by omega
  have nVB : V ≠ B := by omega
  have nRV : R ≠ V := by omega
  have nVR : V ≠ R := by omega
  have nPV : P ≠ V := by omega
  have nVP : V ≠ P := by omega
  have rS16 : Row v15 S 35 (scs s) := ((rS13.old nv14.below).only ov15 nSV)
  have rB16 : Row v15 B 57 (gcs b) := ((rB13.old nv14.below).only ov15 nBV)
  have rR16 : Row v15 R 35 (scs zs) := ((rR13.old nv14.below).only ov15 nRV)
  have rP16 : Row v15 P 23 (u8s dg) := ((rP13.old nv14.below).only ov15 nPV)
  have rV16 : Row v15 V 29 (wcs pm pl pc) := (hv15.congr (lay_all _ _ (len6 HCL.out)))
  have bel16 : Below w.heap.size w v15 := (below_only (below_step bel13 (by omega) nv14.below) ov15 lV (by omega))
  clear q0 q1 q2 q3 q4 q5 q6 q7 rS13 rB13 rR13 rP13 bel13 Ve hv14 nv14 hv15 ov15 sv15
  refine (CF.out _ (HKW.out _ bel16)).mono ?_
  rintro e y17 ⟨rfl, hB⟩
  have rS17 : Row y17 S 35 (scs s) := rS16.old hB
  have rB17 : Row y17 B 57 (gcs b) := rB16.old hB
  have rR17 : Row y17 R 35 (scs zs) := rR16.old hB
  have rP17 : Row y17 P 23 (u8s dg) := rP16.old hB
  have rV17 : Row y17 V 29 (wcs pm pl pc) := rV16.old hB
  have bel17 : Below w.heap.size w y17 := below_step bel16 bel16.size hB
  clear hB rS16 rB16 rR16 rP16 rV16 bel16
  go_wp2_with (first
    | ((with_reducible refine at_slot 13 ?_); (refine arm_alloc (o := ⟨some 13, _, _, _, _, _⟩) rfl _ rfl (Ep.pcs zd zd) z_pair ?_); intro E v18 Ee hv18 nv18)
    | ((with_reducible refine arm_store (o := ⟨none, _, _, _, _, _⟩) rfl _ _ _ rfl E 0 rfl (Ep.pcs ac an) rfl _ _ (hv18) (fitP KC.out KN.out) (Ep.pcs_one _ _) (sz_pair KC.out KN.out) ?_); intro v19 hv19 ov19 sv19)
    | ((with_reducible refine at_slot 60 ?_); (refine arm_want (num32 s.slot) 60 rfl (by kernel_rfl) (run_op_load1 _ _ rfl (.int .u32) (by kernel_rfl) rfl ⟨S, 96, none⟩ rfl (num32 s.slot) (((rS17.old nv18.below).only ov19 (by have := rS17.lt; have := Ee.out; have := nv18.size; have := sv19.out; omega)).cell (show Has (scs s) 96 [num32 s.slot] from h_slt OK.out).get)) ?_))
    | ((with_reducible refine at_slot 62 ?_); (refine arm_want (num32 b.slot) 62 rfl (by kernel_rfl) (run_op_load1 _ _ rfl (.int .u32) (by kernel_rfl) rfl ⟨B, 0, none⟩ rfl (num32 b.slot) (((rB17.old nv18.below).only ov19 (by have := rB17.lt; have := Ee.out; have := nv18.size; have := sv19.out; omega)).cell (show Has (gcs b) 0 [num32 b.slot] from g0 b).get)) ?_)))
  have q0 := Ee.out
  have q1 := nv18.size
  have q2 := sv19.out
  have q3 := rS17.lt
  have q4 := rB17.lt
  have q5 := rR17.lt
  have q6 := rP17.lt
  have q7 := rV17.lt
  have q8 := bel17.size
  have lE : w.heap.size ≤ E := by omega
  have nSE : S ≠ E := by omega
  have nES : E ≠ S := by omega
  have nBE : B ≠ E := by omega
  have nEB : E ≠ B := by omega
  have nRE : R ≠ E := by omega
  have nER : E ≠ R := by omega
  have nPE : P ≠ E := by omega
  have nEP : E ≠ P := by omega
  have nVE : V ≠ E := by omega
  have nEV : E ≠ V := by omega
  have rS20 : Row v19 S 35 (scs s) := ((rS17.old nv18.below).only ov19 nSE)
  have rB20 : Row v19 B 57 (gcs b) := ((rB17.old nv18.below).only ov19 nBE)
  have rR20 : Row v19 R 35 (scs zs) := ((rR17.old nv18.below).only ov19 nRE)
  have rP20 : Row v19 P 23 (u8s dg) := ((rP17.old nv18.below).only ov19 nPE)
  have rV20 : Row v19 V 29 (wcs pm pl pc) := ((rV17.old nv18.below).only ov19 nVE)
  have rE20 : Row v19 E 33 (Ep.pcs ac an) := (hv19.congr (allP KC.out KN.out))
  have bel20 : Below w.heap.size w v19 := (below_only (below_step bel17 (by omega) nv18.below) ov19 lE (by omega))
  clear q0 q1 q2 q3 q4 q5 q6 q7 q8 rS17 rB17 rR17 rP17 rV17 bel17 Ee hv18 nv18 hv19 ov19 sv19
  refine (CB.out _).mono ?_
  rintro e21 z21 ⟨rfl, rfl⟩
  go_wp2_with (first
    | ((with_reducible refine at_slot 68 ?_); (refine arm_five (o := ⟨some 68, _, _, _, _, _⟩) rfl _ _ _ _ _ rfl be le ce pe ae rfl rfl rfl rfl rfl ?_); intro N v22 Ne hv22 nv22))
  have q0 := Ne.out
  have q1 := nv22.size
  have q2 := rS20.lt
  have q3 := rB20.lt
  have q4 := rR20.lt
  have q5 := rP20.lt
  have q6 := rV20.lt
  have q7 := rE20.lt
  have q8 := bel20.size
  have lN : w.heap.size ≤ N := by omega
  have nSN : S ≠ N := by omega
  have nNS : N ≠ S := by omega
  have nBN : B ≠ N := by omega
  have nNB : N ≠ B := by omega
  have nRN : R ≠ N := by omega
  have nNR : N ≠ R := by omega
  have nPN : P ≠ N := by omega
  have nNP : N ≠ P := by omega
  have nVN : V ≠ N := by omega
  have nNV : N ≠ V := by omega
  have nEN : E ≠ N := by omega
  have nNE : N ≠ E := by omega
  have rS23 : Row v22 S 35 (scs s) := (rS20.old nv22.below)
  have rB23 : Row v22 B 57 (gcs b) := (rB20.old nv22.below)
  have rR23 : Row v22 R 35 (scs zs) := (rR20.old nv22.below)
  have rP23 : Row v22 P 23 (u8s dg) := (rP20.old nv22.below)
  have rV23 : Row v22 V 29 (wcs pm pl pc) := (rV20.old nv22.below)
  have rE23 : Row v22 E 33 (Ep.pcs ac an) := (rE20.old nv22.below)
  have rN23 : Row v22 N 48 ([.int .i64 be, .int .i64 le, .int .i64 ce, .int .i64 pe, .int .i64 ae]) := hv22
  have bel23 : Below w.heap.size w v22 := (below_step bel20 (by omega) nv22.below)
  clear q0 q1 q2 q3 q4 q5 q6 q7 q8 rS20 rB20 rR20 rP20 rV20 rE20 bel20 Ne hv22 nv22
  refine (C1.out _ N rN23).mono ?_
  rintro e24 z24 ⟨rfl, rfl⟩
  clear rN23
  clear rS23
  by_cases hz : z = 0
  · obtain rfl := hz
    have hz1 : ((0 : Int) != 0) = false := rfl
    have HR := Lib.hid (HS.out rfl)
    clear HS HZ
    go_wp2_with (first
      | ((with_reducible refine at_slot 74 ?_); (refine arm_load (o := ⟨some 74, _, _, _, _, _⟩) rfl _ _ rfl P 0 rfl (u8s dg) ((show Has (u8s dg) 0 (u8s dg) from Has.refl _).range (rP23)) (szH KD.out) ?_))
      | ((with_reducible refine at_slot 76 ?_); (refine arm_load (o := ⟨some 76, _, _, _, _, _⟩) rfl _ _ rfl B 1 rfl (u8s b.led) ((show Has (gcs b) 1 (u8s b.led) from g1 b).range (rB23)) (szH KB.out.led) ?_))
      | ((with_reducible refine at_slot 78 ?_); (refine arm_load (o := ⟨some 78, _, _, _, _, _⟩) rfl _ _ rfl B 33 rfl (u8s b.draw) ((show Has (gcs b) 33 (u8s b.draw) from g33 KB.out).range (rB23)) (szH KB.out.draw) ?_))
      | ((with_reducible refine at_slot 80 ?_); (refine arm_want (num32 b.slot) 80 rfl (by kernel_rfl) (run_op_load1 _ _ rfl (.int .u32) (by kernel_rfl) rfl ⟨B, 0, none⟩ rfl (num32 b.slot) (rB23.cell (show Has (gcs b) 0 [num32 b.slot] from g0 b).get)) ?_))
      | ((with_reducible refine at_slot 83 ?_); (refine arm_load (o := ⟨some 83, _, _, _, _, _⟩) rfl _ _ rfl V 0 rfl (wcs pm pl pc) ((show Has (wcs pm pl pc) 0 (wcs pm pl pc) from Has.refl _).range (rV23)) (sz_win HCL.out) ?_))
      | ((with_reducible refine at_slot 84 ?_); (refine arm_load (o := ⟨some 84, _, _, _, _, _⟩) rfl _ _ rfl E 0 rfl (Ep.pcs ac an) ((show Has (Ep.pcs ac an) 0 (Ep.pcs ac an) from Has.refl _).range (rE23)) (sz_pair KC.out KN.out) ?_))
      | ((with_reducible refine at_slot 85 ?_); (refine arm_build (o := ⟨some 85, _, _, _, _, _⟩) rfl _ _ rfl (scs g) (by simp only [List.map_toArray, List.map_cons, List.map_nil]; exact BG.out) ?_))
      | ((with_reducible refine arm_store (o := ⟨none, _, _, _, _, _⟩) rfl _ _ _ rfl R 0 rfl (scs g) rfl _ _ (rR23) (fitS KG.out) (scs_one _) (sz_sta KG.out) ?_); intro v25 hv25 ov25 sv25))
    have q0 := sv25.out
    have q1 := rB23.lt
    have q2 := (hv25.congr (allS KG.out)).lt
    have q3 := rP23.lt
    have q4 := rV23.lt
    have q5 := rE23.lt
    have q6 := bel23.size
    have rB26 : Row v25 B 57 (gcs b) := (rB23.only ov25 nBR)
    have rR26 : Row v25 R 35 (scs g) := (hv25.congr (allS KG.out))
    have rP26 : Row v25 P 23 (u8s dg) := (rP23.only ov25 nPR)
    have rV26 : Row v25 V 29 (wcs pm pl pc) := (rV23.only ov25 nVR)
    have rE26 : Row v25 E 33 (Ep.pcs ac an) := (rE23.only ov25 nER)
    have bel26 : Below w.heap.size w v25 := (below_only bel23 ov25 lR (by omega))
    clear q0 q1 q2 q3 q4 q5 q6 rB23 rP23 rV23 rE23 bel23 hv25 ov25 sv25
    rw [HR.out]
    exact bodyPost_ret (result_row2 (p := 4) (u := 5) (ty := 35) (t := 35) (by kernel_rfl) _ _ R (scs g) (.int .i64 0) rfl rfl rR26 (sz_sta KG.out)) rfl ⟨rfl, bel26⟩
  · have hz1 : (z == 0) = false := beq_eq_false_iff_ne.2 hz
    have hz2 : (z != 0) = true := bne_iff_ne.2 hz
    have HR := Lib.hid (HZ.out hz)
    clear HS HZ hz
    go_wp2_with (first
      | ((with_reducible refine at_slot 72 ?_); (refine arm_build (o := ⟨some 72, _, _, _, _, _⟩) rfl _ _ rfl (scs zs) (by simp only [List.map_toArray, List.map_cons, List.map_nil]; exact built_sta0) ?_))
      | ((with_reducible refine arm_store (o := ⟨none, _, _, _, _, _⟩) rfl _ _ _ rfl R 0 rfl (scs zs) rfl _ _ (rR23) (fitS zs_ok) (scs_one _) (sz_sta zs_ok) ?_); intro v25 hv25 ov25 sv25))
    have q0 := sv25.out
    have q1 := rB23.lt
    have q2 := (hv25.congr (allS zs_ok)).lt
    have q3 := rP23.lt
    have q4 := rV23.lt
    have q5 := rE23.lt
    have q6 := bel23.size
    have rB26 : Row v25 B 57 (gcs b) := (rB23.only ov25 nBR)
    have rR26 : Row v25 R 35 (scs zs) := (hv25.congr (allS zs_ok))
    have rP26 : Row v25 P 23 (u8s dg) := (rP23.only ov25 nPR)
    have rV26 : Row v25 V 29 (wcs pm pl pc) := (rV23.only ov25 nVR)
    have rE26 : Row v25 E 33 (Ep.pcs ac an) := (rE23.only ov25 nER)
    have bel26 : Below w.heap.size w v25 := (below_only bel23 ov25 lR (by omega))
    clear q0 q1 q2 q3 q4 q5 q6 rB23 rP23 rV23 rE23 bel23 hv25 ov25 sv25
    rw [HR.out]
    exact bodyPost_ret (result_row2 (p := 4) (u := 5) (ty := 35) (t := 35) (by kernel_rfl) _ _ R (scs zs) (.int .i64 z) rfl rfl rR26 (sz_sta zs_ok)) rfl ⟨rfl, bel26⟩
end Go.Proofs.YtphbpndjebfacaaDoor.Gr
