/-
  The contract of the document's Child (layer 10). Over this seat's translation.
-/
import Derived.Test.YtphbpndjebfacaaDoorGroChild
import Derived.Test.YtphbpndjebfacaaDoorGroChainS
import Derived.Test.YtphbpndjebfacaaDoorStaRHash
import Derived.Test.YtphbpndjebfacaaDoorWinAll
import Derived.Test.YtphbpndjebfacaaDoorEpoAll
import Derived.Test.YtphbpndjebfacaaDoorCmp
namespace Go.Proofs.YtphbpndjebfacaaDoor.Gr
open Go.ChangeShapes Go.WideShapes Go.ChangeAt Go.RowKit Go.Proofs.YtphbpndjebfacaaDoor.Mem Go.Proofs.YtphbpndjebfacaaDoor.Bt Go.Proofs.YtphbpndjebfacaaDoor.Rg Go.Proofs.YtphbpndjebfacaaDoor.Wn Go.Proofs.YtphbpndjebfacaaDoor.Sa Go.Proofs.YtphbpndjebfacaaDoor.Sha
open Go.Proofs.YtphbpndjebfacaaDoor.Ep (H32 Dat Blk zh zh_ok num32 zd zd_ok Has h_len one_app one_num szH zH fitH allH ansC ansN ansE overs fitP allP z_rpair sz_rpair)
set_option linter.unusedVariables false
set_option linter.unusedSimpArgs false

theorem run_op_add32 {P : Program} {o : Oper} {a : Act} (t t' : TypeId) (x y : Operand) (ho : o.op = .binOp .add t x y t') (m n r : Int) (hx : a.eval x = .int .u32 m) (hy : a.eval y = .int .u32 n) (hr : (m + n) % 4294967296 = r) (w : World) :
    (execOp a.eval o).run P w = .ok (.value (.int .u32 r)) w := by
  subst hr
  unfold execOp
  simp [ho, hx, hy, eqGuard, binOp, Op.intArith, IntKind.wrap, IntKind.signed, IntKind.bits]
theorem shape_rblk (parts : List (Nat × Value)) : Tryd.prog.built 93 parts = Instr.fill Ep.bplaces (Ep.bcs Ep.zb).toArray parts := by unfold Ep.bplaces; kernel_rfl
theorem built_rblkOf {s : Sta} {b : Gb} (k : (blkOf s b).Ok) : Tryd.prog.built 93 [(0, num32 s.slot), (1, num32 b.slot), (2, .agg (u8s (digS s)).toArray), (3, .agg (u8s s.led).toArray), (4, .agg (u8s b.draw).toArray)] = some (Ep.bcs (blkOf s b)).toArray := by
  rw [shape_rblk, ← Ep.shape_blk]
  exact built_blkOf k
/-- A child with some Count. -/
def gF (s : Sta) (b : Gb) (c : Nat) : Sta := ⟨digS s, b.led, b.draw, b.slot, s.len + 1, c, putM s.min s.last s.counts b.slot, putL s.last s.counts (b.slot / 3), putC s.last s.counts (b.slot / 3), ansC s.now s.next (blkOf s b), ansN s.next (blkOf s b)⟩
theorem gF_ok {s : Sta} {b : Gb} {c : Nat} (k : s.Ok) (r : SRt s) (j : b.Ok) (hl : s.len + 1 < 4294967296) (hc : c < 4294967296) : (gF s b c).Ok :=
  have h := grown_ok k r j
  ⟨h.prev, h.led, h.draw, h.slot, hl, hc, h.min, h.last, h.counts, h.clt, h.now, h.next⟩
theorem grown_gF {s : Sta} {b : Gb} (h : Fine s b) : grown s b = gF s b (s.count + entN s.slot b.slot) := by
  unfold grown gF
  rw [show addV s.len 1 = s.len + 1 from if_pos h.len, show addV s.count (entN s.slot b.slot) = s.count + entN s.slot b.slot from if_pos h.count]
theorem built_gF {s : Sta} {b : Gb} {c : Nat} (k : (gF s b c).Ok) : Tryd.prog.built 46 [(0, .agg (u8s (digS s)).toArray), (1, .agg (u8s b.led).toArray), (2, .agg (u8s b.draw).toArray), (3, num32 b.slot), (4, num32 (s.len + 1)), (5, num32 c), (6, .agg (wcs (putM s.min s.last s.counts b.slot) (putL s.last s.counts (b.slot / 3)) (putC s.last s.counts (b.slot / 3))).toArray), (7, .agg (Ep.pcs (ansC s.now s.next (blkOf s b)) (ansN s.next (blkOf s b))).toArray)] = some (scs (gF s b c)).toArray := by
  have h := built_all k
  rw [show (gF s b c).prev = digS s from rfl, show (gF s b c).led = b.led from rfl, show (gF s b c).draw = b.draw from rfl, show (gF s b c).slot = b.slot from rfl, show (gF s b c).len = s.len + 1 from rfl, show (gF s b c).count = c from rfl, show (gF s b c).min = putM s.min s.last s.counts b.slot from rfl, show (gF s b c).last = putL s.last s.counts (b.slot / 3) from rfl, show (gF s b c).counts = putC s.last s.counts (b.slot / 3) from rfl, show (gF s b c).now = ansC s.now s.next (blkOf s b) from rfl, show (gF s b c).next = ansN s.next (blkOf s b) from rfl] at h
  exact h
theorem gF_set {s : Sta} {b : Gb} {c : Nat} (k : (gF s b c).Ok) (d : Nat) : (scs (gF s b c)).set 98 (num32 d) = scs (gF s b d) := by
  rw [Ep.set_lay (by rw [scs_len k]; omega), lay_cnt k d]
  rfl
set_option maxHeartbeats 4000000 in
set_option maxRecDepth 100000 in
theorem rchild_slot (s : Sta) (b : Gb) (w : World) (ok : s.Ok) (rt : SRt s) (kb : b.Ok) (hk : w.rangeAt 1 0 (u32s ks)) (h : b.slot ≤ s.slot) :
    Calls Tryd.prog 20 #[.agg (scs s).toArray, .agg (gcs b).toArray] w fun e w' => e = .returned (.tuple #[.agg (scs zs).toArray, .int .i64 6]) ∧ Below w.heap.size w w' := by
  have hk1 : 1 < w.heap.size := range_lt hk (by simp [u32s, ks])
  have HKW : Hid (∀ w', Below w.heap.size w w' → w'.rangeAt 1 0 (u32s ks)) := Lib.hid fun w' hb => range_block hk (hb.block _ hk1)
  have OK := Lib.hid ok; have KB := Lib.hid kb
  have HLQ : Hid (decide ((b.slot : Int) ≤ (s.slot : Int)) = true) := Lib.hid (decide_eq_true (by omega))
  clear ok rt kb hk hk1 h
  go_enter Tryd.func20, Tryd.ntmps20
  go_wp2_with (first
    | ((with_reducible refine at_slot 2 ?_); (refine arm_box (o := ⟨some 2, _, _, _, _, _⟩) rfl _ _ rfl (scs s) rfl ?_); intro S v1 Se hv1 nv1)
    | ((with_reducible refine at_slot 3 ?_); (refine arm_box (o := ⟨some 3, _, _, _, _, _⟩) rfl _ _ rfl (gcs b) rfl ?_); intro B v2 Be hv2 nv2)
    | ((with_reducible refine at_slot 4 ?_); (refine arm_alloc (o := ⟨some 4, _, _, _, _, _⟩) rfl _ rfl (scs zs) z_rsta ?_); intro R v3 Re hv3 nv3)
    | ((with_reducible refine at_slot 13 ?_); (refine arm_want (num32 b.slot) 13 rfl (by kernel_rfl) (run_op_load1 _ _ rfl (.int .u32) (by kernel_rfl) rfl ⟨B, 0, none⟩ rfl (num32 b.slot) ((hv2.old nv3.below).cell (show Has (gcs b) 0 [num32 b.slot] from g0 b).get)) ?_))
    | ((with_reducible refine at_slot 15 ?_); (refine arm_want (num32 s.slot) 15 rfl (by kernel_rfl) (run_op_load1 _ _ rfl (.int .u32) (by kernel_rfl) rfl ⟨S, 96, none⟩ rfl (num32 s.slot) (((hv1.old nv2.below).old nv3.below).cell (show Has (scs s) 96 [num32 s.slot] from h_slt OK.out).get)) ?_))
    | ((with_reducible refine at_slot 16 ?_); (refine arm_want (.bool true) 16 rfl (by kernel_rfl) (cmp_leq _ _ _ _ rfl .u32 (b.slot : Int) (s.slot : Int) rfl rfl true HLQ.out _) ?_))
    | ((with_reducible refine at_slot 17 ?_); (refine arm_build (o := ⟨some 17, _, _, _, _, _⟩) rfl _ _ rfl (scs zs) (by simp only [List.map_toArray, List.map_cons, List.map_nil]; exact built_rsta0) ?_))
    | ((with_reducible refine arm_store (o := ⟨none, _, _, _, _, _⟩) rfl _ _ _ rfl R 0 rfl (scs zs) rfl _ _ (hv3) (fitS zs_ok) (scs_one _) (sz_rsta zs_ok) ?_); intro v4 hv4 ov4 sv4))
  have q0 := Se.out
  have q1 := nv1.size
  have q2 := Be.out
  have q3 := nv2.size
  have q4 := Re.out
  have q5 := nv3.size
  have q6 := sv4.out
  have lS : w.heap.size ≤ S := by omega
  have lB : w.heap.size ≤ B := by omega
  have nSB : S ≠ B := by omega
  have nBS : B ≠ S := by omega
  have lR : w.heap.size ≤ R := by omega
  have nSR : S ≠ R := by omega
  have nRS : R ≠ S := by omega
  have nBR : B ≠ R := by omega
  have nRB : R ≠ B := by omega
  have rS5 : Row v4 S 46 (scs s) := (((hv1.old nv2.below).old nv3.below).only ov4 nSR)
  have rB5 : Row v4 B 70 (gcs b) := ((hv2.old nv3.below).only ov4 nBR)
  have rR5 : Row v4 R 46 (scs zs) := (hv4.congr (allS zs_ok))
  have bel5 : Below w.heap.size w v4 := (below_only (below_step (below_step (below_step (Below.refl _ _) (by omega) nv1.below) (by omega) nv2.below) (by omega) nv3.below) ov4 lR (by omega))
  clear q0 q1 q2 q3 q4 q5 q6 Se hv1 nv1 Be hv2 nv2 Re hv3 nv3 hv4 ov4 sv4
  exact bodyPost_ret (result_row2 (p := 4) (u := 5) (ty := 46) (t := 46) (by kernel_rfl) _ _ R (scs zs) (.int .i64 6) rfl rfl rR5 (sz_rsta zs_ok)) rfl ⟨rfl, bel5⟩
set_option maxHeartbeats 4000000 in
set_option maxRecDepth 100000 in
theorem rchild_len1 (s : Sta) (b : Gb) (w : World) (ok : s.Ok) (rt : SRt s) (kb : b.Ok) (hk : w.rangeAt 1 0 (u32s ks)) (h : s.slot < b.slot) (ht : s.slot / 24 < b.slot / 24) (hl : s.len = 4294967295) :
    Calls Tryd.prog 20 #[.agg (scs s).toArray, .agg (gcs b).toArray] w fun e w' => e = .returned (.tuple #[.agg (scs zs).toArray, .int .i64 5]) ∧ Below w.heap.size w w' := by
  have hk1 : 1 < w.heap.size := range_lt hk (by simp [u32s, ks])
  have HKW : Hid (∀ w', Below w.heap.size w w' → w'.rangeAt 1 0 (u32s ks)) := Lib.hid fun w' hb => range_block hk (hb.block _ hk1)
  have OK := Lib.hid ok; have KB := Lib.hid kb
  have CE1 := Lib.hid (fun w0 => Slot.repoch_nat b.slot w0 kb.slot)
  have CE2 := Lib.hid (fun w0 => Slot.repoch_nat s.slot w0 ok.slot)
  have HLQ : Hid (decide ((b.slot : Int) ≤ (s.slot : Int)) = false) := Lib.hid (decide_eq_false (by omega))
  have HTU : Hid (decide (((s.slot / 24 : Nat) : Int) < ((b.slot / 24 : Nat) : Int)) = true) := Lib.hid (decide_eq_true (by omega))
  have HLM : Hid (decide ((s.len : Int) = 4294967295) = true) := Lib.hid (decide_eq_true (by omega))
  clear ok rt kb hk hk1 h ht hl
  go_enter Tryd.func20, Tryd.ntmps20
  go_wp2_with (first
    | ((with_reducible refine at_slot 2 ?_); (refine arm_box (o := ⟨some 2, _, _, _, _, _⟩) rfl _ _ rfl (scs s) rfl ?_); intro S v1 Se hv1 nv1)
    | ((with_reducible refine at_slot 3 ?_); (refine arm_box (o := ⟨some 3, _, _, _, _, _⟩) rfl _ _ rfl (gcs b) rfl ?_); intro B v2 Be hv2 nv2)
    | ((with_reducible refine at_slot 4 ?_); (refine arm_alloc (o := ⟨some 4, _, _, _, _, _⟩) rfl _ rfl (scs zs) z_rsta ?_); intro R v3 Re hv3 nv3)
    | ((with_reducible refine at_slot 13 ?_); (refine arm_want (num32 b.slot) 13 rfl (by kernel_rfl) (run_op_load1 _ _ rfl (.int .u32) (by kernel_rfl) rfl ⟨B, 0, none⟩ rfl (num32 b.slot) ((hv2.old nv3.below).cell (show Has (gcs b) 0 [num32 b.slot] from g0 b).get)) ?_))
    | ((with_reducible refine at_slot 15 ?_); (refine arm_want (num32 s.slot) 15 rfl (by kernel_rfl) (run_op_load1 _ _ rfl (.int .u32) (by kernel_rfl) rfl ⟨S, 96, none⟩ rfl (num32 s.slot) (((hv1.old nv2.below).old nv3.below).cell (show Has (scs s) 96 [num32 s.slot] from h_slt OK.out).get)) ?_))
    | ((with_reducible refine at_slot 16 ?_); (refine arm_want (.bool false) 16 rfl (by kernel_rfl) (cmp_leq _ _ _ _ rfl .u32 (b.slot : Int) (s.slot : Int) rfl rfl false HLQ.out _) ?_)))
  have q0 := Se.out
  have q1 := nv1.size
  have q2 := Be.out
  have q3 := nv2.size
  have q4 := Re.out
  have q5 := nv3.size
  have lS : w.heap.size ≤ S := by omega
  have lB : w.heap.size ≤ B := by omega
  have nSB : S ≠ B := by omega
  have nBS : B ≠ S := by omega
  have lR : w.heap.size ≤ R := by omega
  have nSR : S ≠ R := by omega
  have nRS : R ≠ S := by omega
  have nBR : B ≠ R := by omega
  have nRB : R ≠ B := by omega
  have rS4 : Row v3 S 46 (scs s) := ((hv1.old nv2.below).old nv3.below)
  have rB4 : Row v3 B 70 (gcs b) := (hv2.old nv3.below)
  have rR4 : Row v3 R 46 (scs zs) := hv3
  have bel4 : Below w.heap.size w v3 := (below_step (below_step (below_step (Below.refl _ _) (by omega) nv1.below) (by omega) nv2.below) (by omega) nv3.below)
  clear q0 q1 q2 q3 q4 q5 Se hv1 nv1 Be hv2 nv2 Re hv3 nv3
  refine wp_region_held (S := fun w' => Row w' S 46 (scs s) ∧ Row w' B 70 (gcs b) ∧ True) (by kernel_rfl) ?_
  change wpAnyH _ _ _ _ _ _ _ _ v3.drew
  have rS5 : Row v3.drew S 46 (scs s) := rS4
  have rB5 : Row v3.drew B 70 (gcs b) := rB4
  have rR5 : Row v3.drew R 46 (scs zs) := rR4
  have bel5 : Below w.heap.size w v3.drew := bel4.trans ((Below.refl _ _).drew)
  clear rS4 rB4 rR4 bel4
  generalize v3.drew = y5 at rS5 rB5 rR5 bel5 ⊢
  refine h_take 0 (.pointer (some ⟨B, 0, none⟩)) rfl 18 rfl (by kernel_rfl) (by kernel_rfl) (by kernel_rfl) (by kernel_rfl) (fun _ _ _ h => h) (fun w' _ => by kernel_rfl) ⟨rS5, rB5, trivial⟩ ?_
  simp only [Act.put, List.setIfInBounds_toArray, List.set_cons_zero, List.set_cons_succ]
  refine h_take 1 (num32 b.slot) rfl 19 rfl (by kernel_rfl) (by kernel_rfl) (by kernel_rfl) (by kernel_rfl) (fun _ _ _ h => h) (fun w' hw => run_op_load1 _ _ rfl (.int .u32) (by kernel_rfl) rfl ⟨B, 0, none⟩ rfl (num32 b.slot) (hw.2.1.cell (show Has (gcs b) 0 [num32 b.slot] from g0 b).get)) ⟨rS5, rB5, trivial⟩ ?_
  simp only [Act.put, List.setIfInBounds_toArray, List.set_cons_zero, List.set_cons_succ]
  refine h_take 3 (.pointer (some ⟨S, 96, none⟩)) rfl 21 rfl (by kernel_rfl) (by kernel_rfl) (by kernel_rfl) (by kernel_rfl) (fun _ _ _ h => h) (fun w' _ => by kernel_rfl) ⟨rS5, rB5, trivial⟩ ?_
  simp only [Act.put, List.setIfInBounds_toArray, List.set_cons_zero, List.set_cons_succ]
  refine h_take 4 (num32 s.slot) rfl 22 rfl (by kernel_rfl) (by kernel_rfl) (by kernel_rfl) (by kernel_rfl) (fun _ _ _ h => h) (fun w' hw => run_op_load1 _ _ rfl (.int .u32) (by kernel_rfl) rfl ⟨S, 96, none⟩ rfl (num32 s.slot) (hw.1.cell (show Has (scs s) 96 [num32 s.slot] from h_slt OK.out).get)) ⟨rS5, rB5, trivial⟩ ?_
  simp only [Act.put, List.setIfInBounds_toArray, List.set_cons_zero, List.set_cons_succ]
  refine h_one (i := 2) (by kernel_rfl) (o_call rfl 20 rfl (by kernel_rfl) (run_op_call 18 _ _ rfl #[.int .u32 (b.slot : Int)] (by simp only [List.map_toArray, List.map_cons, List.map_nil]; rfl) Tryd.func18 (by kernel_rfl) (by kernel_rfl) _) (CE1.out y5) ?_)
  rintro e yq ⟨rfl, rfl⟩
  refine ⟨_, rfl, ⟨rS5, rB5, trivial⟩, ?_⟩
  simp only [Act.put, List.setIfInBounds_toArray, List.set_cons_zero, List.set_cons_succ]
  refine h_one (i := 5) (by kernel_rfl) (o_call rfl 23 rfl (by kernel_rfl) (run_op_call 18 _ _ rfl #[.int .u32 (s.slot : Int)] (by simp only [List.map_toArray, List.map_cons, List.map_nil]; rfl) Tryd.func18 (by kernel_rfl) (by kernel_rfl) _) (CE2.out y5) ?_)
  rintro e yq ⟨rfl, rfl⟩
  refine ⟨_, rfl, ⟨rS5, rB5, trivial⟩, ?_⟩
  simp only [Act.put, List.setIfInBounds_toArray, List.set_cons_zero, List.set_cons_succ]
  refine h_take 6 (.bool true) rfl 24 rfl (by kernel_rfl) (by kernel_rfl) (by kernel_rfl) (by kernel_rfl) (fun _ _ _ h => h) (fun w' _ => cmp_gtr _ _ _ _ rfl .u32 ((b.slot / 24 : Nat) : Int) ((s.slot / 24 : Nat) : Int) rfl rfl true HTU.out w') ⟨rS5, rB5, trivial⟩ ?_
  simp only [Act.put, List.setIfInBounds_toArray, List.set_cons_zero, List.set_cons_succ]
  refine h_take 7 (.bool true) rfl 6 rfl (by kernel_rfl) (by kernel_rfl) (by kernel_rfl) (by kernel_rfl) (fun _ _ _ h => h) (fun w' _ => by kernel_rfl) ⟨rS5, rB5, trivial⟩ ?_
  simp only [Act.put, List.setIfInBounds_toArray, List.set_cons_zero, List.set_cons_succ]
  refine wpAnyH_done (by kernel_rfl) ?_ _
  go_wp2_with (first
    | ((with_reducible refine at_slot 26 ?_); (refine arm_want (num32 s.len) 26 rfl (by kernel_rfl) (run_op_load1 _ _ rfl (.int .u32) (by kernel_rfl) rfl ⟨S, 97, none⟩ rfl (num32 s.len) (rS5.cell (show Has (scs s) 97 [num32 s.len] from h_lngth OK.out).get)) ?_))
    | ((with_reducible refine at_slot 27 ?_); (refine arm_want (.bool true) 27 rfl (by kernel_rfl) (cmp_eql _ _ .u32 (by kernel_rfl) _ _ rfl .u32 (s.len : Int) 4294967295 rfl rfl true HLM.out _) ?_))
    | ((with_reducible refine at_slot 36 ?_); (refine arm_build (o := ⟨some 36, _, _, _, _, _⟩) rfl _ _ rfl (scs zs) (by simp only [List.map_toArray, List.map_cons, List.map_nil]; exact built_rsta0) ?_))
    | ((with_reducible refine arm_store (o := ⟨none, _, _, _, _, _⟩) rfl _ _ _ rfl R 0 rfl (scs zs) rfl _ _ (rR5) (fitS zs_ok) (scs_one _) (sz_rsta zs_ok) ?_); intro v8 hv8 ov8 sv8))
  have q0 := sv8.out
  have q1 := rS5.lt
  have q2 := rB5.lt
  have q3 := rR5.lt
  have q4 := bel5.size
  have rS9 : Row v8 S 46 (scs s) := (rS5.only ov8 nSR)
  have rB9 : Row v8 B 70 (gcs b) := (rB5.only ov8 nBR)
  have rR9 : Row v8 R 46 (scs zs) := (hv8.congr (allS zs_ok))
  have bel9 : Below w.heap.size w v8 := (below_only bel5 ov8 lR (by omega))
  clear q0 q1 q2 q3 q4 rS5 rB5 rR5 bel5 hv8 ov8 sv8
  exact bodyPost_ret (result_row2 (p := 4) (u := 5) (ty := 46) (t := 46) (by kernel_rfl) _ _ R (scs zs) (.int .i64 5) rfl rfl rR9 (sz_rsta zs_ok)) rfl ⟨rfl, bel9⟩
set_option maxHeartbeats 4000000 in
set_option maxRecDepth 100000 in
theorem rchild_len2 (s : Sta) (b : Gb) (w : World) (ok : s.Ok) (rt : SRt s) (kb : b.Ok) (hk : w.rangeAt 1 0 (u32s ks)) (h : s.slot < b.slot) (ht : ¬ s.slot / 24 < b.slot / 24) (hl : s.len = 4294967295) :
    Calls Tryd.prog 20 #[.agg (scs s).toArray, .agg (gcs b).toArray] w fun e w' => e = .returned (.tuple #[.agg (scs zs).toArray, .int .i64 5]) ∧ Below w.heap.size w w' := by
  have hk1 : 1 < w.heap.size := range_lt hk (by simp [u32s, ks])
  have HKW : Hid (∀ w', Below w.heap.size w w' → w'.rangeAt 1 0 (u32s ks)) := Lib.hid fun w' hb => range_block hk (hb.block _ hk1)
  have OK := Lib.hid ok; have KB := Lib.hid kb
  have CE1 := Lib.hid (fun w0 => Slot.repoch_nat b.slot w0 kb.slot)
  have CE2 := Lib.hid (fun w0 => Slot.repoch_nat s.slot w0 ok.slot)
  have HLQ : Hid (decide ((b.slot : Int) ≤ (s.slot : Int)) = false) := Lib.hid (decide_eq_false (by omega))
  have HTU : Hid (decide (((s.slot / 24 : Nat) : Int) < ((b.slot / 24 : Nat) : Int)) = false) := Lib.hid (decide_eq_false (by omega))
  have HLM : Hid (decide ((s.len : Int) = 4294967295) = true) := Lib.hid (decide_eq_true (by omega))
  clear ok rt kb hk hk1 h ht hl
  go_enter Tryd.func20, Tryd.ntmps20
  go_wp2_with (first
    | ((with_reducible refine at_slot 2 ?_); (refine arm_box (o := ⟨some 2, _, _, _, _, _⟩) rfl _ _ rfl (scs s) rfl ?_); intro S v1 Se hv1 nv1)
    | ((with_reducible refine at_slot 3 ?_); (refine arm_box (o := ⟨some 3, _, _, _, _, _⟩) rfl _ _ rfl (gcs b) rfl ?_); intro B v2 Be hv2 nv2)
    | ((with_reducible refine at_slot 4 ?_); (refine arm_alloc (o := ⟨some 4, _, _, _, _, _⟩) rfl _ rfl (scs zs) z_rsta ?_); intro R v3 Re hv3 nv3)
    | ((with_reducible refine at_slot 13 ?_); (refine arm_want (num32 b.slot) 13 rfl (by kernel_rfl) (run_op_load1 _ _ rfl (.int .u32) (by kernel_rfl) rfl ⟨B, 0, none⟩ rfl (num32 b.slot) ((hv2.old nv3.below).cell (show Has (gcs b) 0 [num32 b.slot] from g0 b).get)) ?_))
    | ((with_reducible refine at_slot 15 ?_); (refine arm_want (num32 s.slot) 15 rfl (by kernel_rfl) (run_op_load1 _ _ rfl (.int .u32) (by kernel_rfl) rfl ⟨S, 96, none⟩ rfl (num32 s.slot) (((hv1.old nv2.below).old nv3.below).cell (show Has (scs s) 96 [num32 s.slot] from h_slt OK.out).get)) ?_))
    | ((with_reducible refine at_slot 16 ?_); (refine arm_want (.bool false) 16 rfl (by kernel_rfl) (cmp_leq _ _ _ _ rfl .u32 (b.slot : Int) (s.slot : Int) rfl rfl false HLQ.out _) ?_)))
  have q0 := Se.out
  have q1 := nv1.size
  have q2 := Be.out
  have q3 := nv2.size
  have q4 := Re.out
  have q5 := nv3.size
  have lS : w.heap.size ≤ S := by omega
  have lB : w.heap.size ≤ B := by omega
  have nSB : S ≠ B := by omega
  have nBS : B ≠ S := by omega
  have lR : w.heap.size ≤ R := by omega
  have nSR : S ≠ R := by omega
  have nRS : R ≠ S := by omega
  have nBR : B ≠ R := by omega
  have nRB : R ≠ B := by omega
  have rS4 : Row v3 S 46 (scs s) := ((hv1.old nv2.below).old nv3.below)
  have rB4 : Row v3 B 70 (gcs b) := (hv2.old nv3.below)
  have rR4 : Row v3 R 46 (scs zs) := hv3
  have bel4 : Below w.heap.size w v3 := (below_step (below_step (below_step (Below.refl _ _) (by omega) nv1.below) (by omega) nv2.below) (by omega) nv3.below)
  clear q0 q1 q2 q3 q4 q5 Se hv1 nv1 Be hv2 nv2 Re hv3 nv3
  refine wp_region_held (S := fun w' => Row w' S 46 (scs s) ∧ Row w' B 70 (gcs b) ∧ True) (by kernel_rfl) ?_
  change wpAnyH _ _ _ _ _ _ _ _ v3.drew
  have rS5 : Row v3.drew S 46 (scs s) := rS4
  have rB5 : Row v3.drew B 70 (gcs b) := rB4
  have rR5 : Row v3.drew R 46 (scs zs) := rR4
  have bel5 : Below w.heap.size w v3.drew := bel4.trans ((Below.refl _ _).drew)
  clear rS4 rB4 rR4 bel4
  generalize v3.drew = y5 at rS5 rB5 rR5 bel5 ⊢
  refine h_take 0 (.pointer (some ⟨B, 0, none⟩)) rfl 18 rfl (by kernel_rfl) (by kernel_rfl) (by kernel_rfl) (by kernel_rfl) (fun _ _ _ h => h) (fun w' _ => by kernel_rfl) ⟨rS5, rB5, trivial⟩ ?_
  simp only [Act.put, List.setIfInBounds_toArray, List.set_cons_zero, List.set_cons_succ]
  refine h_take 1 (num32 b.slot) rfl 19 rfl (by kernel_rfl) (by kernel_rfl) (by kernel_rfl) (by kernel_rfl) (fun _ _ _ h => h) (fun w' hw => run_op_load1 _ _ rfl (.int .u32) (by kernel_rfl) rfl ⟨B, 0, none⟩ rfl (num32 b.slot) (hw.2.1.cell (show Has (gcs b) 0 [num32 b.slot] from g0 b).get)) ⟨rS5, rB5, trivial⟩ ?_
  simp only [Act.put, List.setIfInBounds_toArray, List.set_cons_zero, List.set_cons_succ]
  refine h_take 3 (.pointer (some ⟨S, 96, none⟩)) rfl 21 rfl (by kernel_rfl) (by kernel_rfl) (by kernel_rfl) (by kernel_rfl) (fun _ _ _ h => h) (fun w' _ => by kernel_rfl) ⟨rS5, rB5, trivial⟩ ?_
  simp only [Act.put, List.setIfInBounds_toArray, List.set_cons_zero, List.set_cons_succ]
  refine h_take 4 (num32 s.slot) rfl 22 rfl (by kernel_rfl) (by kernel_rfl) (by kernel_rfl) (by kernel_rfl) (fun _ _ _ h => h) (fun w' hw => run_op_load1 _ _ rfl (.int .u32) (by kernel_rfl) rfl ⟨S, 96, none⟩ rfl (num32 s.slot) (hw.1.cell (show Has (scs s) 96 [num32 s.slot] from h_slt OK.out).get)) ⟨rS5, rB5, trivial⟩ ?_
  simp only [Act.put, List.setIfInBounds_toArray, List.set_cons_zero, List.set_cons_succ]
  refine h_one (i := 2) (by kernel_rfl) (o_call rfl 20 rfl (by kernel_rfl) (run_op_call 18 _ _ rfl #[.int .u32 (b.slot : Int)] (by simp only [List.map_toArray, List.map_cons, List.map_nil]; rfl) Tryd.func18 (by kernel_rfl) (by kernel_rfl) _) (CE1.out y5) ?_)
  rintro e yq ⟨rfl, rfl⟩
  refine ⟨_, rfl, ⟨rS5, rB5, trivial⟩, ?_⟩
  simp only [Act.put, List.setIfInBounds_toArray, List.set_cons_zero, List.set_cons_succ]
  refine h_one (i := 5) (by kernel_rfl) (o_call rfl 23 rfl (by kernel_rfl) (run_op_call 18 _ _ rfl #[.int .u32 (s.slot : Int)] (by simp only [List.map_toArray, List.map_cons, List.map_nil]; rfl) Tryd.func18 (by kernel_rfl) (by kernel_rfl) _) (CE2.out y5) ?_)
  rintro e yq ⟨rfl, rfl⟩
  refine ⟨_, rfl, ⟨rS5, rB5, trivial⟩, ?_⟩
  simp only [Act.put, List.setIfInBounds_toArray, List.set_cons_zero, List.set_cons_succ]
  refine h_take 6 (.bool false) rfl 24 rfl (by kernel_rfl) (by kernel_rfl) (by kernel_rfl) (by kernel_rfl) (fun _ _ _ h => h) (fun w' _ => cmp_gtr _ _ _ _ rfl .u32 ((b.slot / 24 : Nat) : Int) ((s.slot / 24 : Nat) : Int) rfl rfl false HTU.out w') ⟨rS5, rB5, trivial⟩ ?_
  simp only [Act.put, List.setIfInBounds_toArray, List.set_cons_zero, List.set_cons_succ]
  refine h_take 7 (.bool false) rfl 6 rfl (by kernel_rfl) (by kernel_rfl) (by kernel_rfl) (by kernel_rfl) (fun _ _ _ h => h) (fun w' _ => by kernel_rfl) ⟨rS5, rB5, trivial⟩ ?_
  simp only [Act.put, List.setIfInBounds_toArray, List.set_cons_zero, List.set_cons_succ]
  refine wpAnyH_done (by kernel_rfl) ?_ _
  go_wp2_with (first
    | ((with_reducible refine at_slot 26 ?_); (refine arm_want (num32 s.len) 26 rfl (by kernel_rfl) (run_op_load1 _ _ rfl (.int .u32) (by kernel_rfl) rfl ⟨S, 97, none⟩ rfl (num32 s.len) (rS5.cell (show Has (scs s) 97 [num32 s.len] from h_lngth OK.out).get)) ?_))
    | ((with_reducible refine at_slot 27 ?_); (refine arm_want (.bool true) 27 rfl (by kernel_rfl) (cmp_eql _ _ .u32 (by kernel_rfl) _ _ rfl .u32 (s.len : Int) 4294967295 rfl rfl true HLM.out _) ?_))
    | ((with_reducible refine at_slot 36 ?_); (refine arm_build (o := ⟨some 36, _, _, _, _, _⟩) rfl _ _ rfl (scs zs) (by simp only [List.map_toArray, List.map_cons, List.map_nil]; exact built_rsta0) ?_))
    | ((with_reducible refine arm_store (o := ⟨none, _, _, _, _, _⟩) rfl _ _ _ rfl R 0 rfl (scs zs) rfl _ _ (rR5) (fitS zs_ok) (scs_one _) (sz_rsta zs_ok) ?_); intro v8 hv8 ov8 sv8))
  have q0 := sv8.out
  have q1 := rS5.lt
  have q2 := rB5.lt
  have q3 := rR5.lt
  have q4 := bel5.size
  have rS9 : Row v8 S 46 (scs s) := (rS5.only ov8 nSR)
  have rB9 : Row v8 B 70 (gcs b) := (rB5.only ov8 nBR)
  have rR9 : Row v8 R 46 (scs zs) := (hv8.congr (allS zs_ok))
  have bel9 : Below w.heap.size w v8 := (below_only bel5 ov8 lR (by omega))
  clear q0 q1 q2 q3 q4 rS5 rB5 rR5 bel5 hv8 ov8 sv8
  exact bodyPost_ret (result_row2 (p := 4) (u := 5) (ty := 46) (t := 46) (by kernel_rfl) _ _ R (scs zs) (.int .i64 5) rfl rfl rR9 (sz_rsta zs_ok)) rfl ⟨rfl, bel9⟩
set_option maxHeartbeats 4000000 in
set_option maxRecDepth 100000 in
theorem rchild_cnt (s : Sta) (b : Gb) (w : World) (ok : s.Ok) (rt : SRt s) (kb : b.Ok) (hk : w.rangeAt 1 0 (u32s ks)) (h : s.slot < b.slot) (ht : s.slot / 24 < b.slot / 24) (hl : s.len ≠ 4294967295) (hc : s.count = 4294967295) :
    Calls Tryd.prog 20 #[.agg (scs s).toArray, .agg (gcs b).toArray] w fun e w' => e = .returned (.tuple #[.agg (scs zs).toArray, .int .i64 5]) ∧ Below w.heap.size w w' := by
  have hk1 : 1 < w.heap.size := range_lt hk (by simp [u32s, ks])
  have HKW : Hid (∀ w', Below w.heap.size w w' → w'.rangeAt 1 0 (u32s ks)) := Lib.hid fun w' hb => range_block hk (hb.block _ hk1)
  have OK := Lib.hid ok; have KB := Lib.hid kb
  have CE1 := Lib.hid (fun w0 => Slot.repoch_nat b.slot w0 kb.slot)
  have CE2 := Lib.hid (fun w0 => Slot.repoch_nat s.slot w0 ok.slot)
  have HLQ : Hid (decide ((b.slot : Int) ≤ (s.slot : Int)) = false) := Lib.hid (decide_eq_false (by omega))
  have HTU : Hid (decide (((s.slot / 24 : Nat) : Int) < ((b.slot / 24 : Nat) : Int)) = true) := Lib.hid (decide_eq_true (by omega))
  have HLM : Hid (decide ((s.len : Int) = 4294967295) = false) := Lib.hid (decide_eq_false (by omega))
  have HCM : Hid (decide ((s.count : Int) = 4294967295) = true) := Lib.hid (decide_eq_true (by omega))
  clear ok rt kb hk hk1 h ht hl hc
  go_enter Tryd.func20, Tryd.ntmps20
  go_wp2_with (first
    | ((with_reducible refine at_slot 2 ?_); (refine arm_box (o := ⟨some 2, _, _, _, _, _⟩) rfl _ _ rfl (scs s) rfl ?_); intro S v1 Se hv1 nv1)
    | ((with_reducible refine at_slot 3 ?_); (refine arm_box (o := ⟨some 3, _, _, _, _, _⟩) rfl _ _ rfl (gcs b) rfl ?_); intro B v2 Be hv2 nv2)
    | ((with_reducible refine at_slot 4 ?_); (refine arm_alloc (o := ⟨some 4, _, _, _, _, _⟩) rfl _ rfl (scs zs) z_rsta ?_); intro R v3 Re hv3 nv3)
    | ((with_reducible refine at_slot 13 ?_); (refine arm_want (num32 b.slot) 13 rfl (by kernel_rfl) (run_op_load1 _ _ rfl (.int .u32) (by kernel_rfl) rfl ⟨B, 0, none⟩ rfl (num32 b.slot) ((hv2.old nv3.below).cell (show Has (gcs b) 0 [num32 b.slot] from g0 b).get)) ?_))
    | ((with_reducible refine at_slot 15 ?_); (refine arm_want (num32 s.slot) 15 rfl (by kernel_rfl) (run_op_load1 _ _ rfl (.int .u32) (by kernel_rfl) rfl ⟨S, 96, none⟩ rfl (num32 s.slot) (((hv1.old nv2.below).old nv3.below).cell (show Has (scs s) 96 [num32 s.slot] from h_slt OK.out).get)) ?_))
    | ((with_reducible refine at_slot 16 ?_); (refine arm_want (.bool false) 16 rfl (by kernel_rfl) (cmp_leq _ _ _ _ rfl .u32 (b.slot : Int) (s.slot : Int) rfl rfl false HLQ.out _) ?_)))
  have q0 := Se.out
  have q1 := nv1.size
  have q2 := Be.out
  have q3 := nv2.size
  have q4 := Re.out
  have q5 := nv3.size
  have lS : w.heap.size ≤ S := by omega
  have lB : w.heap.size ≤ B := by omega
  have nSB : S ≠ B := by omega
  have nBS : B ≠ S := by omega
  have lR : w.heap.size ≤ R := by omega
  have nSR : S ≠ R := by omega
  have nRS : R ≠ S := by omega
  have nBR : B ≠ R := by omega
  have nRB : R ≠ B := by omega
  have rS4 : Row v3 S 46 (scs s) := ((hv1.old nv2.below).old nv3.below)
  have rB4 : Row v3 B 70 (gcs b) := (hv2.old nv3.below)
  have rR4 : Row v3 R 46 (scs zs) := hv3
  have bel4 : Below w.heap.size w v3 := (below_step (below_step (below_step (Below.refl _ _) (by omega) nv1.below) (by omega) nv2.below) (by omega) nv3.below)
  clear q0 q1 q2 q3 q4 q5 Se hv1 nv1 Be hv2 nv2 Re hv3 nv3
  refine wp_region_held (S := fun w' => Row w' S 46 (scs s) ∧ Row w' B 70 (gcs b) ∧ True) (by kernel_rfl) ?_
  change wpAnyH _ _ _ _ _ _ _ _ v3.drew
  have rS5 : Row v3.drew S 46 (scs s) := rS4
  have rB5 : Row v3.drew B 70 (gcs b) := rB4
  have rR5 : Row v3.drew R 46 (scs zs) := rR4
  have bel5 : Below w.heap.size w v3.drew := bel4.trans ((Below.refl _ _).drew)
  clear rS4 rB4 rR4 bel4
  generalize v3.drew = y5 at rS5 rB5 rR5 bel5 ⊢
  refine h_take 0 (.pointer (some ⟨B, 0, none⟩)) rfl 18 rfl (by kernel_rfl) (by kernel_rfl) (by kernel_rfl) (by kernel_rfl) (fun _ _ _ h => h) (fun w' _ => by kernel_rfl) ⟨rS5, rB5, trivial⟩ ?_
  simp only [Act.put, List.setIfInBounds_toArray, List.set_cons_zero, List.set_cons_succ]
  refine h_take 1 (num32 b.slot) rfl 19 rfl (by kernel_rfl) (by kernel_rfl) (by kernel_rfl) (by kernel_rfl) (fun _ _ _ h => h) (fun w' hw => run_op_load1 _ _ rfl (.int .u32) (by kernel_rfl) rfl ⟨B, 0, none⟩ rfl (num32 b.slot) (hw.2.1.cell (show Has (gcs b) 0 [num32 b.slot] from g0 b).get)) ⟨rS5, rB5, trivial⟩ ?_
  simp only [Act.put, List.setIfInBounds_toArray, List.set_cons_zero, List.set_cons_succ]
  refine h_take 3 (.pointer (some ⟨S, 96, none⟩)) rfl 21 rfl (by kernel_rfl) (by kernel_rfl) (by kernel_rfl) (by kernel_rfl) (fun _ _ _ h => h) (fun w' _ => by kernel_rfl) ⟨rS5, rB5, trivial⟩ ?_
  simp only [Act.put, List.setIfInBounds_toArray, List.set_cons_zero, List.set_cons_succ]
  refine h_take 4 (num32 s.slot) rfl 22 rfl (by kernel_rfl) (by kernel_rfl) (by kernel_rfl) (by kernel_rfl) (fun _ _ _ h => h) (fun w' hw => run_op_load1 _ _ rfl (.int .u32) (by kernel_rfl) rfl ⟨S, 96, none⟩ rfl (num32 s.slot) (hw.1.cell (show Has (scs s) 96 [num32 s.slot] from h_slt OK.out).get)) ⟨rS5, rB5, trivial⟩ ?_
  simp only [Act.put, List.setIfInBounds_toArray, List.set_cons_zero, List.set_cons_succ]
  refine h_one (i := 2) (by kernel_rfl) (o_call rfl 20 rfl (by kernel_rfl) (run_op_call 18 _ _ rfl #[.int .u32 (b.slot : Int)] (by simp only [List.map_toArray, List.map_cons, List.map_nil]; rfl) Tryd.func18 (by kernel_rfl) (by kernel_rfl) _) (CE1.out y5) ?_)
  rintro e yq ⟨rfl, rfl⟩
  refine ⟨_, rfl, ⟨rS5, rB5, trivial⟩, ?_⟩
  simp only [Act.put, List.setIfInBounds_toArray, List.set_cons_zero, List.set_cons_succ]
  refine h_one (i := 5) (by kernel_rfl) (o_call rfl 23 rfl (by kernel_rfl) (run_op_call 18 _ _ rfl #[.int .u32 (s.slot : Int)] (by simp only [List.map_toArray, List.map_cons, List.map_nil]; rfl) Tryd.func18 (by kernel_rfl) (by kernel_rfl) _) (CE2.out y5) ?_)
  rintro e yq ⟨rfl, rfl⟩
  refine ⟨_, rfl, ⟨rS5, rB5, trivial⟩, ?_⟩
  simp only [Act.put, List.setIfInBounds_toArray, List.set_cons_zero, List.set_cons_succ]
  refine h_take 6 (.bool true) rfl 24 rfl (by kernel_rfl) (by kernel_rfl) (by kernel_rfl) (by kernel_rfl) (fun _ _ _ h => h) (fun w' _ => cmp_gtr _ _ _ _ rfl .u32 ((b.slot / 24 : Nat) : Int) ((s.slot / 24 : Nat) : Int) rfl rfl true HTU.out w') ⟨rS5, rB5, trivial⟩ ?_
  simp only [Act.put, List.setIfInBounds_toArray, List.set_cons_zero, List.set_cons_succ]
  refine h_take 7 (.bool true) rfl 6 rfl (by kernel_rfl) (by kernel_rfl) (by kernel_rfl) (by kernel_rfl) (fun _ _ _ h => h) (fun w' _ => by kernel_rfl) ⟨rS5, rB5, trivial⟩ ?_
  simp only [Act.put, List.setIfInBounds_toArray, List.set_cons_zero, List.set_cons_succ]
  refine wpAnyH_done (by kernel_rfl) ?_ _
  go_wp2_with (first
    | ((with_reducible refine at_slot 26 ?_); (refine arm_want (num32 s.len) 26 rfl (by kernel_rfl) (run_op_load1 _ _ rfl (.int .u32) (by kernel_rfl) rfl ⟨S, 97, none⟩ rfl (num32 s.len) (rS5.cell (show Has (scs s) 97 [num32 s.len] from h_lngth OK.out).get)) ?_))
    | ((with_reducible refine at_slot 27 ?_); (refine arm_want (.bool false) 27 rfl (by kernel_rfl) (cmp_eql _ _ .u32 (by kernel_rfl) _ _ rfl .u32 (s.len : Int) 4294967295 rfl rfl false HLM.out _) ?_))
    | ((with_reducible refine at_slot 32 ?_); (refine arm_want (num32 s.count) 32 rfl (by kernel_rfl) (run_op_load1 _ _ rfl (.int .u32) (by kernel_rfl) rfl ⟨S, 98, none⟩ rfl (num32 s.count) (rS5.cell (show Has (scs s) 98 [num32 s.count] from h_cnt OK.out).get)) ?_))
    | ((with_reducible refine at_slot 33 ?_); (refine arm_want (.bool true) 33 rfl (by kernel_rfl) (cmp_eql _ _ .u32 (by kernel_rfl) _ _ rfl .u32 (s.count : Int) 4294967295 rfl rfl true HCM.out _) ?_))
    | ((with_reducible refine at_slot 36 ?_); (refine arm_build (o := ⟨some 36, _, _, _, _, _⟩) rfl _ _ rfl (scs zs) (by simp only [List.map_toArray, List.map_cons, List.map_nil]; exact built_rsta0) ?_))
    | ((with_reducible refine arm_store (o := ⟨none, _, _, _, _, _⟩) rfl _ _ _ rfl R 0 rfl (scs zs) rfl _ _ (rR5) (fitS zs_ok) (scs_one _) (sz_rsta zs_ok) ?_); intro v8 hv8 ov8 sv8))
  have q0 := sv8.out
  have q1 := rS5.lt
  have q2 := rB5.lt
  have q3 := rR5.lt
  have q4 := bel5.size
  have rS9 : Row v8 S 46 (scs s) := (rS5.only ov8 nSR)
  have rB9 : Row v8 B 70 (gcs b) := (rB5.only ov8 nBR)
  have rR9 : Row v8 R 46 (scs zs) := (hv8.congr (allS zs_ok))
  have bel9 : Below w.heap.size w v8 := (below_only bel5 ov8 lR (by omega))
  clear q0 q1 q2 q3 q4 rS5 rB5 rR5 bel5 hv8 ov8 sv8
  exact bodyPost_ret (result_row2 (p := 4) (u := 5) (ty := 46) (t := 46) (by kernel_rfl) _ _ R (scs zs) (.int .i64 5) rfl rfl rR9 (sz_rsta zs_ok)) rfl ⟨rfl, bel9⟩
set_option maxHeartbeats 4000000 in
set_option maxRecDepth 100000 in
theorem rchild_put1 (s : Sta) (b : Gb) (w : World) (ok : s.Ok) (rt : SRt s) (kb : b.Ok) (hk : w.rangeAt 1 0 (u32s ks)) (h : s.slot < b.slot) (ht :  s.slot / 24 < b.slot / 24) (hl : s.len ≠ 4294967295) (hc : s.count ≠ 4294967295) (hp : putE s.last s.counts (b.slot / 3) ≠ 0) :
    Calls Tryd.prog 20 #[.agg (scs s).toArray, .agg (gcs b).toArray] w fun e w' => e = .returned (.tuple #[.agg (scs zs).toArray, .int .i64 (putE s.last s.counts (b.slot / 3))]) ∧ Below w.heap.size w w' := by
  have hk1 : 1 < w.heap.size := range_lt hk (by simp [u32s, ks])
  have HKW : Hid (∀ w', Below w.heap.size w w' → w'.rangeAt 1 0 (u32s ks)) := Lib.hid fun w' hb => range_block hk (hb.block _ hk1)
  have OK := Lib.hid ok; have KB := Lib.hid kb
  have CE1 := Lib.hid (fun w0 => Slot.repoch_nat b.slot w0 kb.slot)
  have CE2 := Lib.hid (fun w0 => Slot.repoch_nat s.slot w0 ok.slot)
  have HLQ : Hid (decide ((b.slot : Int) ≤ (s.slot : Int)) = false) := Lib.hid (decide_eq_false (by omega))
  have HTU : Hid (decide (((s.slot / 24 : Nat) : Int) < ((b.slot / 24 : Nat) : Int)) = true) := Lib.hid (decide_eq_true (by omega))
  have HLM : Hid (decide ((s.len : Int) = 4294967295) = false) := Lib.hid (decide_eq_false (by omega))
  have HCM : Hid (decide ((s.count : Int) = 4294967295) = false) := Lib.hid (decide_eq_false (by omega))
  have CW := Lib.hid (fun w0 => rwput_any s.min s.last b.slot s.counts w0 ok.min ok.last kb.slot rt.1.2 ok.counts)
  have HCL := Lib.hid (putC_len s.last s.counts (b.slot / 3))
  generalize putM s.min s.last s.counts b.slot = pm at CW
  generalize putL s.last s.counts (b.slot / 3) = pl at CW
  generalize putC s.last s.counts (b.slot / 3) = pc at CW HCL
  generalize putE s.last s.counts (b.slot / 3) = z at CW hp ⊢
  have hz1 : (z == 0) = false := beq_eq_false_iff_ne.2 hp
  have hz2 : (z != 0) = true := bne_iff_ne.2 hp
  clear ok rt kb hk hk1 h ht hl hp hc
  go_enter Tryd.func20, Tryd.ntmps20
  go_wp2_with (first
    | ((with_reducible refine at_slot 2 ?_); (refine arm_box (o := ⟨some 2, _, _, _, _, _⟩) rfl _ _ rfl (scs s) rfl ?_); intro S v1 Se hv1 nv1)
    | ((with_reducible refine at_slot 3 ?_); (refine arm_box (o := ⟨some 3, _, _, _, _, _⟩) rfl _ _ rfl (gcs b) rfl ?_); intro B v2 Be hv2 nv2)
    | ((with_reducible refine at_slot 4 ?_); (refine arm_alloc (o := ⟨some 4, _, _, _, _, _⟩) rfl _ rfl (scs zs) z_rsta ?_); intro R v3 Re hv3 nv3)
    | ((with_reducible refine at_slot 13 ?_); (refine arm_want (num32 b.slot) 13 rfl (by kernel_rfl) (run_op_load1 _ _ rfl (.int .u32) (by kernel_rfl) rfl ⟨B, 0, none⟩ rfl (num32 b.slot) ((hv2.old nv3.below).cell (show Has (gcs b) 0 [num32 b.slot] from g0 b).get)) ?_))
    | ((with_reducible refine at_slot 15 ?_); (refine arm_want (num32 s.slot) 15 rfl (by kernel_rfl) (run_op_load1 _ _ rfl (.int .u32) (by kernel_rfl) rfl ⟨S, 96, none⟩ rfl (num32 s.slot) (((hv1.old nv2.below).old nv3.below).cell (show Has (scs s) 96 [num32 s.slot] from h_slt OK.out).get)) ?_))
    | ((with_reducible refine at_slot 16 ?_); (refine arm_want (.bool false) 16 rfl (by kernel_rfl) (cmp_leq _ _ _ _ rfl .u32 (b.slot : Int) (s.slot : Int) rfl rfl false HLQ.out _) ?_)))
  have q0 := Se.out
  have q1 := nv1.size
  have q2 := Be.out
  have q3 := nv2.size
  have q4 := Re.out
  have q5 := nv3.size
  have lS : w.heap.size ≤ S := by omega
  have lB : w.heap.size ≤ B := by omega
  have nSB : S ≠ B := by omega
  have nBS : B ≠ S := by omega
  have lR : w.heap.size ≤ R := by omega
  have nSR : S ≠ R := by omega
  have nRS : R ≠ S := by omega
  have nBR : B ≠ R := by omega
  have nRB : R ≠ B := by omega
  have rS4 : Row v3 S 46 (scs s) := ((hv1.old nv2.below).old nv3.below)
  have rB4 : Row v3 B 70 (gcs b) := (hv2.old nv3.below)
  have rR4 : Row v3 R 46 (scs zs) := hv3
  have bel4 : Below w.heap.size w v3 := (below_step (below_step (below_step (Below.refl _ _) (by omega) nv1.below) (by omega) nv2.below) (by omega) nv3.below)
  clear q0 q1 q2 q3 q4 q5 Se hv1 nv1 Be hv2 nv2 Re hv3 nv3
  refine wp_region_held (S := fun w' => Row w' S 46 (scs s) ∧ Row w' B 70 (gcs b) ∧ True) (by kernel_rfl) ?_
  change wpAnyH _ _ _ _ _ _ _ _ v3.drew
  have rS5 : Row v3.drew S 46 (scs s) := rS4
  have rB5 : Row v3.drew B 70 (gcs b) := rB4
  have rR5 : Row v3.drew R 46 (scs zs) := rR4
  have bel5 : Below w.heap.size w v3.drew := bel4.trans ((Below.refl _ _).drew)
  clear rS4 rB4 rR4 bel4
  generalize v3.drew = y5 at rS5 rB5 rR5 bel5 ⊢
  refine h_take 0 (.pointer (some ⟨B, 0, none⟩)) rfl 18 rfl (by kernel_rfl) (by kernel_rfl) (by kernel_rfl) (by kernel_rfl) (fun _ _ _ h => h) (fun w' _ => by kernel_rfl) ⟨rS5, rB5, trivial⟩ ?_
  simp only [Act.put, List.setIfInBounds_toArray, List.set_cons_zero, List.set_cons_succ]
  refine h_take 1 (num32 b.slot) rfl 19 rfl (by kernel_rfl) (by kernel_rfl) (by kernel_rfl) (by kernel_rfl) (fun _ _ _ h => h) (fun w' hw => run_op_load1 _ _ rfl (.int .u32) (by kernel_rfl) rfl ⟨B, 0, none⟩ rfl (num32 b.slot) (hw.2.1.cell (show Has (gcs b) 0 [num32 b.slot] from g0 b).get)) ⟨rS5, rB5, trivial⟩ ?_
  simp only [Act.put, List.setIfInBounds_toArray, List.set_cons_zero, List.set_cons_succ]
  refine h_take 3 (.pointer (some ⟨S, 96, none⟩)) rfl 21 rfl (by kernel_rfl) (by kernel_rfl) (by kernel_rfl) (by kernel_rfl) (fun _ _ _ h => h) (fun w' _ => by kernel_rfl) ⟨rS5, rB5, trivial⟩ ?_
  simp only [Act.put, List.setIfInBounds_toArray, List.set_cons_zero, List.set_cons_succ]
  refine h_take 4 (num32 s.slot) rfl 22 rfl (by kernel_rfl) (by kernel_rfl) (by kernel_rfl) (by kernel_rfl) (fun _ _ _ h => h) (fun w' hw => run_op_load1 _ _ rfl (.int .u32) (by kernel_rfl) rfl ⟨S, 96, none⟩ rfl (num32 s.slot) (hw.1.cell (show Has (scs s) 96 [num32 s.slot] from h_slt OK.out).get)) ⟨rS5, rB5, trivial⟩ ?_
  simp only [Act.put, List.setIfInBounds_toArray, List.set_cons_zero, List.set_cons_succ]
  refine h_one (i := 2) (by kernel_rfl) (o_call rfl 20 rfl (by kernel_rfl) (run_op_call 18 _ _ rfl #[.int .u32 (b.slot : Int)] (by simp only [List.map_toArray, List.map_cons, List.map_nil]; rfl) Tryd.func18 (by kernel_rfl) (by kernel_rfl) _) (CE1.out y5) ?_)
  rintro e yq ⟨rfl, rfl⟩
  refine ⟨_, rfl, ⟨rS5, rB5, trivial⟩, ?_⟩
  simp only [Act.put, List.setIfInBounds_toArray, List.set_cons_zero, List.set_cons_succ]
  refine h_one (i := 5) (by kernel_rfl) (o_call rfl 23 rfl (by kernel_rfl) (run_op_call 18 _ _ rfl #[.int .u32 (s.slot : Int)] (by simp only [List.map_toArray, List.map_cons, List.map_nil]; rfl) Tryd.func18 (by kernel_rfl) (by kernel_rfl) _) (CE2.out y5) ?_)
  rintro e yq ⟨rfl, rfl⟩
  refine ⟨_, rfl, ⟨rS5, rB5, trivial⟩, ?_⟩
  simp only [Act.put, List.setIfInBounds_toArray, List.set_cons_zero, List.set_cons_succ]
  refine h_take 6 (.bool true) rfl 24 rfl (by kernel_rfl) (by kernel_rfl) (by kernel_rfl) (by kernel_rfl) (fun _ _ _ h => h) (fun w' _ => cmp_gtr _ _ _ _ rfl .u32 ((b.slot / 24 : Nat) : Int) ((s.slot / 24 : Nat) : Int) rfl rfl true HTU.out w') ⟨rS5, rB5, trivial⟩ ?_
  simp only [Act.put, List.setIfInBounds_toArray, List.set_cons_zero, List.set_cons_succ]
  refine h_take 7 (.bool true) rfl 6 rfl (by kernel_rfl) (by kernel_rfl) (by kernel_rfl) (by kernel_rfl) (fun _ _ _ h => h) (fun w' _ => by kernel_rfl) ⟨rS5, rB5, trivial⟩ ?_
  simp only [Act.put, List.setIfInBounds_toArray, List.set_cons_zero, List.set_cons_succ]
  refine wpAnyH_done (by kernel_rfl) ?_ _
  go_wp2_with (first
    | ((with_reducible refine at_slot 26 ?_); (refine arm_want (num32 s.len) 26 rfl (by kernel_rfl) (run_op_load1 _ _ rfl (.int .u32) (by kernel_rfl) rfl ⟨S, 97, none⟩ rfl (num32 s.len) (rS5.cell (show Has (scs s) 97 [num32 s.len] from h_lngth OK.out).get)) ?_))
    | ((with_reducible refine at_slot 27 ?_); (refine arm_want (.bool false) 27 rfl (by kernel_rfl) (cmp_eql _ _ .u32 (by kernel_rfl) _ _ rfl .u32 (s.len : Int) 4294967295 rfl rfl false HLM.out _) ?_))
    | ((with_reducible refine at_slot 32 ?_); (refine arm_want (num32 s.count) 32 rfl (by kernel_rfl) (run_op_load1 _ _ rfl (.int .u32) (by kernel_rfl) rfl ⟨S, 98, none⟩ rfl (num32 s.count) (rS5.cell (show Has (scs s) 98 [num32 s.count] from h_cnt OK.out).get)) ?_))
    | ((with_reducible refine at_slot 33 ?_); (refine arm_want (.bool false) 33 rfl (by kernel_rfl) (cmp_eql _ _ .u32 (by kernel_rfl) _ _ rfl .u32 (s.count : Int) 4294967295 rfl rfl false HCM.out _) ?_))
    | ((with_reducible refine at_slot 39 ?_); (refine arm_load (o := ⟨some 39, _, _, _, _, _⟩) rfl _ _ rfl S 99 rfl (Wn.wcs s.min s.last s.counts) ((show Has (scs s) 99 (Wn.wcs s.min s.last s.counts) from s_win OK.out).range (rS5)) (sz_rwin OK.out.counts) ?_))
    | ((with_reducible refine at_slot 41 ?_); (refine arm_want (num32 b.slot) 41 rfl (by kernel_rfl) (run_op_load1 _ _ rfl (.int .u32) (by kernel_rfl) rfl ⟨B, 0, none⟩ rfl (num32 b.slot) (rB5.cell (show Has (gcs b) 0 [num32 b.slot] from g0 b).get)) ?_)))
  refine (CW.out _).mono ?_
  rintro e y8 ⟨rfl, hB⟩
  have rS8 : Row y8 S 46 (scs s) := rS5.old hB
  have rB8 : Row y8 B 70 (gcs b) := rB5.old hB
  have rR8 : Row y8 R 46 (scs zs) := rR5.old hB
  have bel8 : Below w.heap.size w y8 := below_step bel5 bel5.size hB
  clear hB rS5 rB5 rR5 bel5
  go_wp2_with (first
    | ((with_reducible refine at_slot 7 ?_); (refine arm_alloc (o := ⟨some 7, _, _, _, _, _⟩) rfl _ rfl (wcs 0 0 [0, 0, 0, 0]) z_rwin ?_); intro V v9 Ve hv9 nv9)
    | ((with_reducible refine arm_store (o := ⟨none, _, _, _, _, _⟩) rfl _ _ _ rfl V 0 rfl (wcs pm pl pc) rfl _ _ (hv9) (fit6 HCL.out) (wcs_one _ _ _) (sz_rwin HCL.out) ?_); intro v10 hv10 ov10 sv10)
    | ((with_reducible refine at_slot 47 ?_); (refine arm_build (o := ⟨some 47, _, _, _, _, _⟩) rfl _ _ rfl (scs zs) (by simp only [List.map_toArray, List.map_cons, List.map_nil]; exact built_rsta0) ?_))
    | ((with_reducible refine arm_store (o := ⟨none, _, _, _, _, _⟩) rfl _ _ _ rfl R 0 rfl (scs zs) rfl _ _ (((rR8.old nv9.below).only ov10 (by have := rR8.lt; have := Ve.out; have := nv9.size; have := sv10.out; omega))) (fitS zs_ok) (scs_one _) (sz_rsta zs_ok) ?_); intro v11 hv11 ov11 sv11))
  have q0 := Ve.out
  have q1 := nv9.size
  have q2 := sv10.out
  have q3 := sv11.out
  have q4 := rS8.lt
  have q5 := rB8.lt
  have q6 := rR8.lt
  have q7 := bel8.size
  have lV : w.heap.size ≤ V := by omega
  have nSV : S ≠ V := by omega
  have nVS : V ≠ S := by omega
  have nBV : B ≠ V := by omega
  have nVB : V ≠ B := by omega
  have nRV : R ≠ V := by omega
  have nVR : V ≠ R := by omega
  have rS12 : Row v11 S 46 (scs s) := (((rS8.old nv9.below).only ov10 nSV).only ov11 nSR)
  have rB12 : Row v11 B 70 (gcs b) := (((rB8.old nv9.below).only ov10 nBV).only ov11 nBR)
  have rR12 : Row v11 R 46 (scs zs) := (hv11.congr (allS zs_ok))
  have rV12 : Row v11 V 41 (wcs pm pl pc) := ((hv10.congr (lay_all _ _ (len6 HCL.out))).only ov11 nVR)
  have bel12 : Below w.heap.size w v11 := (below_only (below_only (below_step bel8 (by omega) nv9.below) ov10 lV (by omega)) ov11 lR (by omega))
  clear q0 q1 q2 q3 q4 q5 q6 q7 rS8 rB8 rR8 bel8 Ve hv9 nv9 hv10 ov10 sv10 hv11 ov11 sv11
  exact bodyPost_ret (result_row2 (p := 4) (u := 5) (ty := 46) (t := 46) (by kernel_rfl) _ _ R (scs zs) (.int .i64 z) rfl rfl rR12 (sz_rsta zs_ok)) rfl ⟨rfl, bel12⟩
set_option maxHeartbeats 4000000 in
set_option maxRecDepth 100000 in
theorem rchild_put2 (s : Sta) (b : Gb) (w : World) (ok : s.Ok) (rt : SRt s) (kb : b.Ok) (hk : w.rangeAt 1 0 (u32s ks)) (h : s.slot < b.slot) (ht : ¬ s.slot / 24 < b.slot / 24) (hl : s.len ≠ 4294967295) (hp : putE s.last s.counts (b.slot / 3) ≠ 0) :
    Calls Tryd.prog 20 #[.agg (scs s).toArray, .agg (gcs b).toArray] w fun e w' => e = .returned (.tuple #[.agg (scs zs).toArray, .int .i64 (putE s.last s.counts (b.slot / 3))]) ∧ Below w.heap.size w w' := by
  have hk1 : 1 < w.heap.size := range_lt hk (by simp [u32s, ks])
  have HKW : Hid (∀ w', Below w.heap.size w w' → w'.rangeAt 1 0 (u32s ks)) := Lib.hid fun w' hb => range_block hk (hb.block _ hk1)
  have OK := Lib.hid ok; have KB := Lib.hid kb
  have CE1 := Lib.hid (fun w0 => Slot.repoch_nat b.slot w0 kb.slot)
  have CE2 := Lib.hid (fun w0 => Slot.repoch_nat s.slot w0 ok.slot)
  have HLQ : Hid (decide ((b.slot : Int) ≤ (s.slot : Int)) = false) := Lib.hid (decide_eq_false (by omega))
  have HTU : Hid (decide (((s.slot / 24 : Nat) : Int) < ((b.slot / 24 : Nat) : Int)) = false) := Lib.hid (decide_eq_false (by omega))
  have HLM : Hid (decide ((s.len : Int) = 4294967295) = false) := Lib.hid (decide_eq_false (by omega))
  have CW := Lib.hid (fun w0 => rwput_any s.min s.last b.slot s.counts w0 ok.min ok.last kb.slot rt.1.2 ok.counts)
  have HCL := Lib.hid (putC_len s.last s.counts (b.slot / 3))
  generalize putM s.min s.last s.counts b.slot = pm at CW
  generalize putL s.last s.counts (b.slot / 3) = pl at CW
  generalize putC s.last s.counts (b.slot / 3) = pc at CW HCL
  generalize putE s.last s.counts (b.slot / 3) = z at CW hp ⊢
  have hz1 : (z == 0) = false := beq_eq_false_iff_ne.2 hp
  have hz2 : (z != 0) = true := bne_iff_ne.2 hp
  clear ok rt kb hk hk1 h ht hl hp
  go_enter Tryd.func20, Tryd.ntmps20
  go_wp2_with (first
    | ((with_reducible refine at_slot 2 ?_); (refine arm_box (o := ⟨some 2, _, _, _, _, _⟩) rfl _ _ rfl (scs s) rfl ?_); intro S v1 Se hv1 nv1)
    | ((with_reducible refine at_slot 3 ?_); (refine arm_box (o := ⟨some 3, _, _, _, _, _⟩) rfl _ _ rfl (gcs b) rfl ?_); intro B v2 Be hv2 nv2)
    | ((with_reducible refine at_slot 4 ?_); (refine arm_alloc (o := ⟨some 4, _, _, _, _, _⟩) rfl _ rfl (scs zs) z_rsta ?_); intro R v3 Re hv3 nv3)
    | ((with_reducible refine at_slot 13 ?_); (refine arm_want (num32 b.slot) 13 rfl (by kernel_rfl) (run_op_load1 _ _ rfl (.int .u32) (by kernel_rfl) rfl ⟨B, 0, none⟩ rfl (num32 b.slot) ((hv2.old nv3.below).cell (show Has (gcs b) 0 [num32 b.slot] from g0 b).get)) ?_))
    | ((with_reducible refine at_slot 15 ?_); (refine arm_want (num32 s.slot) 15 rfl (by kernel_rfl) (run_op_load1 _ _ rfl (.int .u32) (by kernel_rfl) rfl ⟨S, 96, none⟩ rfl (num32 s.slot) (((hv1.old nv2.below).old nv3.below).cell (show Has (scs s) 96 [num32 s.slot] from h_slt OK.out).get)) ?_))
    | ((with_reducible refine at_slot 16 ?_); (refine arm_want (.bool false) 16 rfl (by kernel_rfl) (cmp_leq _ _ _ _ rfl .u32 (b.slot : Int) (s.slot : Int) rfl rfl false HLQ.out _) ?_)))
  have q0 := Se.out
  have q1 := nv1.size
  have q2 := Be.out
  have q3 := nv2.size
  have q4 := Re.out
  have q5 := nv3.size
  have lS : w.heap.size ≤ S := by omega
  have lB : w.heap.size ≤ B := by omega
  have nSB : S ≠ B := by omega
  have nBS : B ≠ S := by omega
  have lR : w.heap.size ≤ R := by omega
  have nSR : S ≠ R := by omega
  have nRS : R ≠ S := by omega
  have nBR : B ≠ R := by omega
  have nRB : R ≠ B := by omega
  have rS4 : Row v3 S 46 (scs s) := ((hv1.old nv2.below).old nv3.below)
  have rB4 : Row v3 B 70 (gcs b) := (hv2.old nv3.below)
  have rR4 : Row v3 R 46 (scs zs) := hv3
  have bel4 : Below w.heap.size w v3 := (below_step (below_step (below_step (Below.refl _ _) (by omega) nv1.below) (by omega) nv2.below) (by omega) nv3.below)
  clear q0 q1 q2 q3 q4 q5 Se hv1 nv1 Be hv2 nv2 Re hv3 nv3
  refine wp_region_held (S := fun w' => Row w' S 46 (scs s) ∧ Row w' B 70 (gcs b) ∧ True) (by kernel_rfl) ?_
  change wpAnyH _ _ _ _ _ _ _ _ v3.drew
  have rS5 : Row v3.drew S 46 (scs s) := rS4
  have rB5 : Row v3.drew B 70 (gcs b) := rB4
  have rR5 : Row v3.drew R 46 (scs zs) := rR4
  have bel5 : Below w.heap.size w v3.drew := bel4.trans ((Below.refl _ _).drew)
  clear rS4 rB4 rR4 bel4
  generalize v3.drew = y5 at rS5 rB5 rR5 bel5 ⊢
  refine h_take 0 (.pointer (some ⟨B, 0, none⟩)) rfl 18 rfl (by kernel_rfl) (by kernel_rfl) (by kernel_rfl) (by kernel_rfl) (fun _ _ _ h => h) (fun w' _ => by kernel_rfl) ⟨rS5, rB5, trivial⟩ ?_
  simp only [Act.put, List.setIfInBounds_toArray, List.set_cons_zero, List.set_cons_succ]
  refine h_take 1 (num32 b.slot) rfl 19 rfl (by kernel_rfl) (by kernel_rfl) (by kernel_rfl) (by kernel_rfl) (fun _ _ _ h => h) (fun w' hw => run_op_load1 _ _ rfl (.int .u32) (by kernel_rfl) rfl ⟨B, 0, none⟩ rfl (num32 b.slot) (hw.2.1.cell (show Has (gcs b) 0 [num32 b.slot] from g0 b).get)) ⟨rS5, rB5, trivial⟩ ?_
  simp only [Act.put, List.setIfInBounds_toArray, List.set_cons_zero, List.set_cons_succ]
  refine h_take 3 (.pointer (some ⟨S, 96, none⟩)) rfl 21 rfl (by kernel_rfl) (by kernel_rfl) (by kernel_rfl) (by kernel_rfl) (fun _ _ _ h => h) (fun w' _ => by kernel_rfl) ⟨rS5, rB5, trivial⟩ ?_
  simp only [Act.put, List.setIfInBounds_toArray, List.set_cons_zero, List.set_cons_succ]
  refine h_take 4 (num32 s.slot) rfl 22 rfl (by kernel_rfl) (by kernel_rfl) (by kernel_rfl) (by kernel_rfl) (fun _ _ _ h => h) (fun w' hw => run_op_load1 _ _ rfl (.int .u32) (by kernel_rfl) rfl ⟨S, 96, none⟩ rfl (num32 s.slot) (hw.1.cell (show Has (scs s) 96 [num32 s.slot] from h_slt OK.out).get)) ⟨rS5, rB5, trivial⟩ ?_
  simp only [Act.put, List.setIfInBounds_toArray, List.set_cons_zero, List.set_cons_succ]
  refine h_one (i := 2) (by kernel_rfl) (o_call rfl 20 rfl (by kernel_rfl) (run_op_call 18 _ _ rfl #[.int .u32 (b.slot : Int)] (by simp only [List.map_toArray, List.map_cons, List.map_nil]; rfl) Tryd.func18 (by kernel_rfl) (by kernel_rfl) _) (CE1.out y5) ?_)
  rintro e yq ⟨rfl, rfl⟩
  refine ⟨_, rfl, ⟨rS5, rB5, trivial⟩, ?_⟩
  simp only [Act.put, List.setIfInBounds_toArray, List.set_cons_zero, List.set_cons_succ]
  refine h_one (i := 5) (by kernel_rfl) (o_call rfl 23 rfl (by kernel_rfl) (run_op_call 18 _ _ rfl #[.int .u32 (s.slot : Int)] (by simp only [List.map_toArray, List.map_cons, List.map_nil]; rfl) Tryd.func18 (by kernel_rfl) (by kernel_rfl) _) (CE2.out y5) ?_)
  rintro e yq ⟨rfl, rfl⟩
  refine ⟨_, rfl, ⟨rS5, rB5, trivial⟩, ?_⟩
  simp only [Act.put, List.setIfInBounds_toArray, List.set_cons_zero, List.set_cons_succ]
  refine h_take 6 (.bool false) rfl 24 rfl (by kernel_rfl) (by kernel_rfl) (by kernel_rfl) (by kernel_rfl) (fun _ _ _ h => h) (fun w' _ => cmp_gtr _ _ _ _ rfl .u32 ((b.slot / 24 : Nat) : Int) ((s.slot / 24 : Nat) : Int) rfl rfl false HTU.out w') ⟨rS5, rB5, trivial⟩ ?_
  simp only [Act.put, List.setIfInBounds_toArray, List.set_cons_zero, List.set_cons_succ]
  refine h_take 7 (.bool false) rfl 6 rfl (by kernel_rfl) (by kernel_rfl) (by kernel_rfl) (by kernel_rfl) (fun _ _ _ h => h) (fun w' _ => by kernel_rfl) ⟨rS5, rB5, trivial⟩ ?_
  simp only [Act.put, List.setIfInBounds_toArray, List.set_cons_zero, List.set_cons_succ]
  refine wpAnyH_done (by kernel_rfl) ?_ _
  go_wp2_with (first
    | ((with_reducible refine at_slot 26 ?_); (refine arm_want (num32 s.len) 26 rfl (by kernel_rfl) (run_op_load1 _ _ rfl (.int .u32) (by kernel_rfl) rfl ⟨S, 97, none⟩ rfl (num32 s.len) (rS5.cell (show Has (scs s) 97 [num32 s.len] from h_lngth OK.out).get)) ?_))
    | ((with_reducible refine at_slot 27 ?_); (refine arm_want (.bool false) 27 rfl (by kernel_rfl) (cmp_eql _ _ .u32 (by kernel_rfl) _ _ rfl .u32 (s.len : Int) 4294967295 rfl rfl false HLM.out _) ?_))
    | ((with_reducible refine at_slot 39 ?_); (refine arm_load (o := ⟨some 39, _, _, _, _, _⟩) rfl _ _ rfl S 99 rfl (Wn.wcs s.min s.last s.counts) ((show Has (scs s) 99 (Wn.wcs s.min s.last s.counts) from s_win OK.out).range (rS5)) (sz_rwin OK.out.counts) ?_))
    | ((with_reducible refine at_slot 41 ?_); (refine arm_want (num32 b.slot) 41 rfl (by kernel_rfl) (run_op_load1 _ _ rfl (.int .u32) (by kernel_rfl) rfl ⟨B, 0, none⟩ rfl (num32 b.slot) (rB5.cell (show Has (gcs b) 0 [num32 b.slot] from g0 b).get)) ?_)))
  refine (CW.out _).mono ?_
  rintro e y8 ⟨rfl, hB⟩
  have rS8 : Row y8 S 46 (scs s) := rS5.old hB
  have rB8 : Row y8 B 70 (gcs b) := rB5.old hB
  have rR8 : Row y8 R 46 (scs zs) := rR5.old hB
  have bel8 : Below w.heap.size w y8 := below_step bel5 bel5.size hB
  clear hB rS5 rB5 rR5 bel5
  go_wp2_with (first
    | ((with_reducible refine at_slot 7 ?_); (refine arm_alloc (o := ⟨some 7, _, _, _, _, _⟩) rfl _ rfl (wcs 0 0 [0, 0, 0, 0]) z_rwin ?_); intro V v9 Ve hv9 nv9)
    | ((with_reducible refine arm_store (o := ⟨none, _, _, _, _, _⟩) rfl _ _ _ rfl V 0 rfl (wcs pm pl pc) rfl _ _ (hv9) (fit6 HCL.out) (wcs_one _ _ _) (sz_rwin HCL.out) ?_); intro v10 hv10 ov10 sv10)
    | ((with_reducible refine at_slot 47 ?_); (refine arm_build (o := ⟨some 47, _, _, _, _, _⟩) rfl _ _ rfl (scs zs) (by simp only [List.map_toArray, List.map_cons, List.map_nil]; exact built_rsta0) ?_))
    | ((with_reducible refine arm_store (o := ⟨none, _, _, _, _, _⟩) rfl _ _ _ rfl R 0 rfl (scs zs) rfl _ _ (((rR8.old nv9.below).only ov10 (by have := rR8.lt; have := Ve.out; have := nv9.size; have := sv10.out; omega))) (fitS zs_ok) (scs_one _) (sz_rsta zs_ok) ?_); intro v11 hv11 ov11 sv11))
  have q0 := Ve.out
  have q1 := nv9.size
  have q2 := sv10.out
  have q3 := sv11.out
  have q4 := rS8.lt
  have q5 := rB8.lt
  have q6 := rR8.lt
  have q7 := bel8.size
  have lV : w.heap.size ≤ V := by omega
  have nSV : S ≠ V := by omega
  have nVS : V ≠ S := by omega
  have nBV : B ≠ V := by omega
  have nVB : V ≠ B := by omega
  have nRV : R ≠ V := by omega
  have nVR : V ≠ R := by omega
  have rS12 : Row v11 S 46 (scs s) := (((rS8.old nv9.below).only ov10 nSV).only ov11 nSR)
  have rB12 : Row v11 B 70 (gcs b) := (((rB8.old nv9.below).only ov10 nBV).only ov11 nBR)
  have rR12 : Row v11 R 46 (scs zs) := (hv11.congr (allS zs_ok))
  have rV12 : Row v11 V 41 (wcs pm pl pc) := ((hv10.congr (lay_all _ _ (len6 HCL.out))).only ov11 nVR)
  have bel12 : Below w.heap.size w v11 := (below_only (below_only (below_step bel8 (by omega) nv9.below) ov10 lV (by omega)) ov11 lR (by omega))
  clear q0 q1 q2 q3 q4 q5 q6 q7 rS8 rB8 rR8 bel8 Ve hv9 nv9 hv10 ov10 sv10 hv11 ov11 sv11
  exact bodyPost_ret (result_row2 (p := 4) (u := 5) (ty := 46) (t := 46) (by kernel_rfl) _ _ R (scs zs) (.int .i64 z) rfl rfl rR12 (sz_rsta zs_ok)) rfl ⟨rfl, bel12⟩
set_option maxHeartbeats 4000000 in
set_option maxRecDepth 100000 in
theorem rchild_follow (s : Sta) (b : Gb) (w : World) (ok : s.Ok) (rt : SRt s) (kb : b.Ok) (hk : w.rangeAt 1 0 (u32s ks)) (h : s.slot < b.slot) (ht : ¬ s.slot / 24 < b.slot / 24) (hl : s.len ≠ 4294967295) (hp : putE s.last s.counts (b.slot / 3) = 0) (hf : ansE s.next (blkOf s b) ≠ 0) :
    Calls Tryd.prog 20 #[.agg (scs s).toArray, .agg (gcs b).toArray] w fun e w' => e = .returned (.tuple #[.agg (scs zs).toArray, .int .i64 (ansE s.next (blkOf s b))]) ∧ Below w.heap.size w w' := by
  have hk1 : 1 < w.heap.size := range_lt hk (by simp [u32s, ks])
  have HKW : Hid (∀ w', Below w.heap.size w w' → w'.rangeAt 1 0 (u32s ks)) := Lib.hid fun w' hb => range_block hk (hb.block _ hk1)
  have OK := Lib.hid ok; have KB := Lib.hid kb
  have CE1 := Lib.hid (fun w0 => Slot.repoch_nat b.slot w0 kb.slot)
  have CE2 := Lib.hid (fun w0 => Slot.repoch_nat s.slot w0 ok.slot)
  have HLQ : Hid (decide ((b.slot : Int) ≤ (s.slot : Int)) = false) := Lib.hid (decide_eq_false (by omega))
  have HTU : Hid (decide (((s.slot / 24 : Nat) : Int) < ((b.slot / 24 : Nat) : Int)) = false) := Lib.hid (decide_eq_false (by omega))
  have HLM : Hid (decide ((s.len : Int) = 4294967295) = false) := Lib.hid (decide_eq_false (by omega))
  have CW := Lib.hid (fun w0 => rwput_any s.min s.last b.slot s.counts w0 ok.min ok.last kb.slot rt.1.2 ok.counts)
  have HCL := Lib.hid (putC_len s.last s.counts (b.slot / 3))
  rw [hp] at CW
  generalize putM s.min s.last s.counts b.slot = pm at CW
  generalize putL s.last s.counts (b.slot / 3) = pl at CW
  generalize putC s.last s.counts (b.slot / 3) = pc at CW HCL
  have CH := Lib.hid (fun w0 h => rhash_any s w0 ok h)
  have CF := Lib.hid (fun w0 h => Ep.rfollow_any s.now s.next (blkOf s b) w0 ok.now ok.next (blkOf_ok ok kb) h)
  have KD := Lib.hid (digS_ok s)
  have KC := Lib.hid (Ep.ansC_ok (b := blkOf s b) ok.now ok.next)
  have KN := Lib.hid (Ep.ansN_ok (b := blkOf s b) ok.next (blkOf_ok ok kb))
  have BB := Lib.hid (built_rblkOf (blkOf_ok ok kb))
  generalize ansE s.next (blkOf s b) = z at CF hf ⊢
  generalize ansC s.now s.next (blkOf s b) = ac at CF KC
  generalize ansN s.next (blkOf s b) = an at CF KN
  generalize blkOf s b = bk at CF BB
  generalize digS s = dg at CH BB KD
  have hz1 : (z == 0) = false := beq_eq_false_iff_ne.2 hf
  have hz2 : (z != 0) = true := bne_iff_ne.2 hf
  clear ok rt kb hk hk1 h ht hl hp hf
  go_enter Tryd.func20, Tryd.ntmps20
  go_wp2_with (first
    | ((with_reducible refine at_slot 2 ?_); (refine arm_box (o := ⟨some 2, _, _, _, _, _⟩) rfl _ _ rfl (scs s) rfl ?_); intro S v1 Se hv1 nv1)
    | ((with_reducible refine at_slot 3 ?_); (refine arm_box (o := ⟨some 3, _, _, _, _, _⟩) rfl _ _ rfl (gcs b) rfl ?_); intro B v2 Be hv2 nv2)
    | ((with_reducible refine at_slot 4 ?_); (refine arm_alloc (o := ⟨some 4, _, _, _, _, _⟩) rfl _ rfl (scs zs) z_rsta ?_); intro R v3 Re hv3 nv3)
    | ((with_reducible refine at_slot 13 ?_); (refine arm_want (num32 b.slot) 13 rfl (by kernel_rfl) (run_op_load1 _ _ rfl (.int .u32) (by kernel_rfl) rfl ⟨B, 0, none⟩ rfl (num32 b.slot) ((hv2.old nv3.below).cell (show Has (gcs b) 0 [num32 b.slot] from g0 b).get)) ?_))
    | ((with_reducible refine at_slot 15 ?_); (refine arm_want (num32 s.slot) 15 rfl (by kernel_rfl) (run_op_load1 _ _ rfl (.int .u32) (by kernel_rfl) rfl ⟨S, 96, none⟩ rfl (num32 s.slot) (((hv1.old nv2.below).old nv3.below).cell (show Has (scs s) 96 [num32 s.slot] from h_slt OK.out).get)) ?_))
    | ((with_reducible refine at_slot 16 ?_); (refine arm_want (.bool false) 16 rfl (by kernel_rfl) (cmp_leq _ _ _ _ rfl .u32 (b.slot : Int) (s.slot : Int) rfl rfl false HLQ.out _) ?_)))
  have q0 := Se.out
  have q1 := nv1.size
  have q2 := Be.out
  have q3 := nv2.size
  have q4 := Re.out
  have q5 := nv3.size
  have lS : w.heap.size ≤ S := by omega
  have lB : w.heap.size ≤ B := by omega
  have nSB : S ≠ B := by omega
  have nBS : B ≠ S := by omega
  have lR : w.heap.size ≤ R := by omega
  have nSR : S ≠ R := by omega
  have nRS : R ≠ S := by omega
  have nBR : B ≠ R := by omega
  have nRB : R ≠ B := by omega
  have rS4 : Row v3 S 46 (scs s) := ((hv1.old nv2.below).old nv3.below)
  have rB4 : Row v3 B 70 (gcs b) := (hv2.old nv3.below)
  have rR4 : Row v3 R 46 (scs zs) := hv3
  have bel4 : Below w.heap.size w v3 := (below_step (below_step (below_step (Below.refl _ _) (by omega) nv1.below) (by omega) nv2.below) (by omega) nv3.below)
  clear q0 q1 q2 q3 q4 q5 Se hv1 nv1 Be hv2 nv2 Re hv3 nv3
  refine wp_region_held (S := fun w' => Row w' S 46 (scs s) ∧ Row w' B 70 (gcs b) ∧ True) (by kernel_rfl) ?_
  change wpAnyH _ _ _ _ _ _ _ _ v3.drew
  have rS5 : Row v3.drew S 46 (scs s) := rS4
  have rB5 : Row v3.drew B 70 (gcs b) := rB4
  have rR5 : Row v3.drew R 46 (scs zs) := rR4
  have bel5 : Below w.heap.size w v3.drew := bel4.trans ((Below.refl _ _).drew)
  clear rS4 rB4 rR4 bel4
  generalize v3.drew = y5 at rS5 rB5 rR5 bel5 ⊢
  refine h_take 0 (.pointer (some ⟨B, 0, none⟩)) rfl 18 rfl (by kernel_rfl) (by kernel_rfl) (by kernel_rfl) (by kernel_rfl) (fun _ _ _ h => h) (fun w' _ => by kernel_rfl) ⟨rS5, rB5, trivial⟩ ?_
  simp only [Act.put, List.setIfInBounds_toArray, List.set_cons_zero, List.set_cons_succ]
  refine h_take 1 (num32 b.slot) rfl 19 rfl (by kernel_rfl) (by kernel_rfl) (by kernel_rfl) (by kernel_rfl) (fun _ _ _ h => h) (fun w' hw => run_op_load1 _ _ rfl (.int .u32) (by kernel_rfl) rfl ⟨B, 0, none⟩ rfl (num32 b.slot) (hw.2.1.cell (show Has (gcs b) 0 [num32 b.slot] from g0 b).get)) ⟨rS5, rB5, trivial⟩ ?_
  simp only [Act.put, List.setIfInBounds_toArray, List.set_cons_zero, List.set_cons_succ]
  refine h_take 3 (.pointer (some ⟨S, 96, none⟩)) rfl 21 rfl (by kernel_rfl) (by kernel_rfl) (by kernel_rfl) (by kernel_rfl) (fun _ _ _ h => h) (fun w' _ => by kernel_rfl) ⟨rS5, rB5, trivial⟩ ?_
  simp only [Act.put, List.setIfInBounds_toArray, List.set_cons_zero, List.set_cons_succ]
  refine h_take 4 (num32 s.slot) rfl 22 rfl (by kernel_rfl) (by kernel_rfl) (by kernel_rfl) (by kernel_rfl) (fun _ _ _ h => h) (fun w' hw => run_op_load1 _ _ rfl (.int .u32) (by kernel_rfl) rfl ⟨S, 96, none⟩ rfl (num32 s.slot) (hw.1.cell (show Has (scs s) 96 [num32 s.slot] from h_slt OK.out).get)) ⟨rS5, rB5, trivial⟩ ?_
  simp only [Act.put, List.setIfInBounds_toArray, List.set_cons_zero, List.set_cons_succ]
  refine h_one (i := 2) (by kernel_rfl) (o_call rfl 20 rfl (by kernel_rfl) (run_op_call 18 _ _ rfl #[.int .u32 (b.slot : Int)] (by simp only [List.map_toArray, List.map_cons, List.map_nil]; rfl) Tryd.func18 (by kernel_rfl) (by kernel_rfl) _) (CE1.out y5) ?_)
  rintro e yq ⟨rfl, rfl⟩
  refine ⟨_, rfl, ⟨rS5, rB5, trivial⟩, ?_⟩
  simp only [Act.put, List.setIfInBounds_toArray, List.set_cons_zero, List.set_cons_succ]
  refine h_one (i := 5) (by kernel_rfl) (o_call rfl 23 rfl (by kernel_rfl) (run_op_call 18 _ _ rfl #[.int .u32 (s.slot : Int)] (by simp only [List.map_toArray, List.map_cons, List.map_nil]; rfl) Tryd.func18 (by kernel_rfl) (by kernel_rfl) _) (CE2.out y5) ?_)
  rintro e yq ⟨rfl, rfl⟩
  refine ⟨_, rfl, ⟨rS5, rB5, trivial⟩, ?_⟩
  simp only [Act.put, List.setIfInBounds_toArray, List.set_cons_zero, List.set_cons_succ]
  refine h_take 6 (.bool false) rfl 24 rfl (by kernel_rfl) (by kernel_rfl) (by kernel_rfl) (by kernel_rfl) (fun _ _ _ h => h) (fun w' _ => cmp_gtr _ _ _ _ rfl .u32 ((b.slot / 24 : Nat) : Int) ((s.slot / 24 : Nat) : Int) rfl rfl false HTU.out w') ⟨rS5, rB5, trivial⟩ ?_
  simp only [Act.put, List.setIfInBounds_toArray, List.set_cons_zero, List.set_cons_succ]
  refine h_take 7 (.bool false) rfl 6 rfl (by kernel_rfl) (by kernel_rfl) (by kernel_rfl) (by kernel_rfl) (fun _ _ _ h => h) (fun w' _ => by kernel_rfl) ⟨rS5, rB5, trivial⟩ ?_
  simp only [Act.put, List.setIfInBounds_toArray, List.set_cons_zero, List.set_cons_succ]
  refine wpAnyH_done (by kernel_rfl) ?_ _
  go_wp2_with (first
    | ((with_reducible refine at_slot 26 ?_); (refine arm_want (num32 s.len) 26 rfl (by kernel_rfl) (run_op_load1 _ _ rfl (.int .u32) (by kernel_rfl) rfl ⟨S, 97, none⟩ rfl (num32 s.len) (rS5.cell (show Has (scs s) 97 [num32 s.len] from h_lngth OK.out).get)) ?_))
    | ((with_reducible refine at_slot 27 ?_); (refine arm_want (.bool false) 27 rfl (by kernel_rfl) (cmp_eql _ _ .u32 (by kernel_rfl) _ _ rfl .u32 (s.len : Int) 4294967295 rfl rfl false HLM.out _) ?_))
    | ((with_reducible refine at_slot 39 ?_); (refine arm_load (o := ⟨some 39, _, _, _, _, _⟩) rfl _ _ rfl S 99 rfl (Wn.wcs s.min s.last s.counts) ((show Has (scs s) 99 (Wn.wcs s.min s.last s.counts) from s_win OK.out).range (rS5)) (sz_rwin OK.out.counts) ?_))
    | ((with_reducible refine at_slot 41 ?_); (refine arm_want (num32 b.slot) 41 rfl (by kernel_rfl) (run_op_load1 _ _ rfl (.int .u32) (by kernel_rfl) rfl ⟨B, 0, none⟩ rfl (num32 b.slot) (rB5.cell (show Has (gcs b) 0 [num32 b.slot] from g0 b).get)) ?_)))
  refine (CW.out _).mono ?_
  rintro e y8 ⟨rfl, hB⟩
  have rS8 : Row y8 S 46 (scs s) := rS5.old hB
  have rB8 : Row y8 B 70 (gcs b) := rB5.old hB
  have rR8 : Row y8 R 46 (scs zs) := rR5.old hB
  have bel8 : Below w.heap.size w y8 := below_step bel5 bel5.size hB
  clear hB rS5 rB5 rR5 bel5
  go_wp2_with (first
    | ((with_reducible refine at_slot 7 ?_); (refine arm_alloc (o := ⟨some 7, _, _, _, _, _⟩) rfl _ rfl (wcs 0 0 [0, 0, 0, 0]) z_rwin ?_); intro V v9 Ve hv9 nv9)
    | ((with_reducible refine arm_store (o := ⟨none, _, _, _, _, _⟩) rfl _ _ _ rfl V 0 rfl (wcs pm pl pc) rfl _ _ (hv9) (fit6 HCL.out) (wcs_one _ _ _) (sz_rwin HCL.out) ?_); intro v10 hv10 ov10 sv10)
    | ((with_reducible refine at_slot 49 ?_); (refine arm_load (o := ⟨some 49, _, _, _, _, _⟩) rfl _ _ rfl S 0 rfl (scs s) ((show Has (scs s) 0 (scs s) from Has.refl _).range (((rS8.old nv9.below).only ov10 (by have := rS8.lt; have := Ve.out; have := nv9.size; have := sv10.out; omega)))) (sz_rsta OK.out) ?_)))
  have q0 := Ve.out
  have q1 := nv9.size
  have q2 := sv10.out
  have q3 := rS8.lt
  have q4 := rB8.lt
  have q5 := rR8.lt
  have q6 := bel8.size
  have lV : w.heap.size ≤ V := by omega
  have nSV : S ≠ V := by omega
  have nVS : V ≠ S := by omega
  have nBV : B ≠ V := by omega
  have nVB : V ≠ B := by omega
  have nRV : R ≠ V := by omega
  have nVR : V ≠ R := by omega
  have rS11 : Row v10 S 46 (scs s) := ((rS8.old nv9.below).only ov10 nSV)
  have rB11 : Row v10 B 70 (gcs b) := ((rB8.old nv9.below).only ov10 nBV)
  have rR11 : Row v10 R 46 (scs zs) := ((rR8.old nv9.below).only ov10 nRV)
  have rV11 : Row v10 V 41 (wcs pm pl pc) := (hv10.congr (lay_all _ _ (len6 HCL.out)))
  have bel11 : Below w.heap.size w v10 := (below_only (below_step bel8 (by omega) nv9.below) ov10 lV (by omega))
  clear q0 q1 q2 q3 q4 q5 q6 rS8 rB8 rR8 bel8 Ve hv9 nv9 hv10 ov10 sv10
  refine (CH.out _ (HKW.out _ bel11)).mono ?_
  rintro e y12 ⟨rfl, hB⟩
  have rS12 : Row y12 S 46 (scs s) := rS11.old hB
  have rB12 : Row y12 B 70 (gcs b) := rB11.old hB
  have rR12 : Row y12 R 46 (scs zs) := rR11.old hB
  have rV12 : Row y12 V 41 (wcs pm pl pc) := rV11.old hB
  have bel12 : Below w.heap.size w y12 := below_step bel11 bel11.size hB
  clear hB rS11 rB11 rR11 rV11 bel11
  go_wp2_with (first
    | ((with_reducible refine at_slot 9 ?_); (refine arm_alloc (o := ⟨some 9, _, _, _, _, _⟩) rfl _ rfl (u8s zh) zH ?_); intro P v13 Pe hv13 nv13)
    | ((with_reducible refine arm_store (o := ⟨none, _, _, _, _, _⟩) rfl _ _ _ rfl P 0 rfl (u8s dg) rfl _ _ (hv13) (fitH KD.out) (u8s_one _) (szH KD.out) ?_); intro v14 hv14 ov14 sv14)
    | ((with_reducible refine at_slot 53 ?_); (refine arm_load (o := ⟨some 53, _, _, _, _, _⟩) rfl _ _ rfl S 105 rfl (Ep.pcs s.now s.next) ((show Has (scs s) 105 (Ep.pcs s.now s.next) from s_eps OK.out).range (((rS12.old nv13.below).only ov14 (by have := rS12.lt; have := Pe.out; have := nv13.size; have := sv14.out; omega)))) (sz_rpair OK.out.now OK.out.next) ?_))
    | ((with_reducible refine at_slot 55 ?_); (refine arm_want (num32 s.slot) 55 rfl (by kernel_rfl) (run_op_load1 _ _ rfl (.int .u32) (by kernel_rfl) rfl ⟨S, 96, none⟩ rfl (num32 s.slot) (((rS12.old nv13.below).only ov14 (by have := rS12.lt; have := Pe.out; have := nv13.size; have := sv14.out; omega)).cell (show Has (scs s) 96 [num32 s.slot] from h_slt OK.out).get)) ?_))
    | ((with_reducible refine at_slot 57 ?_); (refine arm_want (num32 b.slot) 57 rfl (by kernel_rfl) (run_op_load1 _ _ rfl (.int .u32) (by kernel_rfl) rfl ⟨B, 0, none⟩ rfl (num32 b.slot) (((rB12.old nv13.below).only ov14 (by have := rB12.lt; have := Pe.out; have := nv13.size; have := sv14.out; omega)).cell (show Has (gcs b) 0 [num32 b.slot] from g0 b).get)) ?_))
    | ((with_reducible refine at_slot 58 ?_); (refine arm_load (o := ⟨some 58, _, _, _, _, _⟩) rfl _ _ rfl P 0 rfl (u8s dg) ((show Has (u8s dg) 0 (u8s dg) from Has.refl _).range ((hv14.congr (allH KD.out)))) (szH KD.out) ?_))
    | ((with_reducible refine at_slot 60 ?_); (refine arm_load (o := ⟨some 60, _, _, _, _, _⟩) rfl _ _ rfl S 32 rfl (u8s s.led) ((show Has (scs s) 32 (u8s s.led) from h_ledg OK.out).range (((rS12.old nv13.below).only ov14 (by have := rS12.lt; have := Pe.out; have := nv13.size; have := sv14.out; omega)))) (szH OK.out.led) ?_))
    | ((with_reducible refine at_slot 62 ?_); (refine arm_load (o := ⟨some 62, _, _, _, _, _⟩) rfl _ _ rfl B 33 rfl (u8s b.draw) ((show Has (gcs b) 33 (u8s b.draw) from g33 KB.out).range (((rB12.old nv13.below).only ov14 (by have := rB12.lt; have := Pe.out; have := nv13.size; have := sv14.out; omega)))) (szH KB.out.draw) ?_))
    | ((with_reducible refine at_slot 63 ?_); (refine arm_build (o := ⟨some 63, _, _, _, _, _⟩) rfl _ _ rfl (Ep.bcs bk) (by simp only [List.map_toArray, List.map_cons, List.map_nil]; exact BB.out) ?_)))
  have q0 := Pe.out
  have q1 := nv13.size
  have q2 := sv14.out
  have q3 := rS12.lt
  have q4 := rB12.lt
  have q5 := rR12.lt
  have q6 := rV12.lt
  have q7 := bel12.size
  have lP : w.heap.size ≤ P := by omega
  have nSP : S ≠ P := by omega
  have nPS : P ≠ S := by omega
  have nBP : B ≠ P := by omega
  have nPB : P ≠ B := by omega
  have nRP : R ≠ P := by omega
  have nPR : P ≠ R := by omega
  have nVP : V ≠ P := by omega
  have nPV : P ≠ V := by omega
  have rS15 : Row v14 S 46 (scs s) := ((rS12.old nv13.below).only ov14 nSP)
  have rB15 : Row v14 B 70 (gcs b) := ((rB12.old nv13.below).only ov14 nBP)
  have rR15 : Row v14 R 46 (scs zs) := ((rR12.old nv13.below).only ov14 nRP)
  have rV15 : Row v14 V 41 (wcs pm pl pc) := ((rV12.old nv13.below).only ov14 nVP)
  have rP15 : Row v14 P 23 (u8s dg) := (hv14.congr (allH KD.out))
  have bel15 : Below w.heap.size w v14 := (below_only (below_step bel12 (by omega) nv13.below) ov14 lP (by omega))
  clear q0 q1 q2 q3 q4 q5 q6 q7 rS12 rB12 rR12 rV12 bel12 Pe hv13 nv13 hv14 ov14 sv14
  refine (CF.out _ (HKW.out _ bel15)).mono ?_
  rintro e y16 ⟨rfl, hB⟩
  have rS16 : Row y16 S 46 (scs s) := rS15.old hB
  have rB16 : Row y16 B 70 (gcs b) := rB15.old hB
  have rR16 : Row y16 R 46 (scs zs) := rR15.old hB
  have rV16 : Row y16 V 41 (wcs pm pl pc) := rV15.old hB
  have rP16 : Row y16 P 23 (u8s dg) := rP15.old hB
  have bel16 : Below w.heap.size w y16 := below_step bel15 bel15.size hB
  clear hB rS15 rB15 rR15 rV15 rP15 bel15
  go_wp2_with (first
    | ((with_reducible refine at_slot 10 ?_); (refine arm_alloc (o := ⟨some 10, _, _, _, _, _⟩) rfl _ rfl (Ep.pcs zd zd) z_rpair ?_); intro E v17 Ee hv17 nv17)
    | ((with_reducible refine arm_store (o := ⟨none, _, _, _, _, _⟩) rfl _ _ _ rfl E 0 rfl (Ep.pcs ac an) rfl _ _ (hv17) (fitP KC.out KN.out) (Ep.pcs_one _ _) (sz_rpair KC.out KN.out) ?_); intro v18 hv18 ov18 sv18)
    | ((with_reducible refine at_slot 69 ?_); (refine arm_build (o := ⟨some 69, _, _, _, _, _⟩) rfl _ _ rfl (scs zs) (by simp only [List.map_toArray, List.map_cons, List.map_nil]; exact built_rsta0) ?_))
    | ((with_reducible refine arm_store (o := ⟨none, _, _, _, _, _⟩) rfl _ _ _ rfl R 0 rfl (scs zs) rfl _ _ (((rR16.old nv17.below).only ov18 (by have := rR16.lt; have := Ee.out; have := nv17.size; have := sv18.out; omega))) (fitS zs_ok) (scs_one _) (sz_rsta zs_ok) ?_); intro v19 hv19 ov19 sv19))
  have q0 := Ee.out
  have q1 := nv17.size
  have q2 := sv18.out
  have q3 := sv19.out
  have q4 := rS16.lt
  have q5 := rB16.lt
  have q6 := rR16.lt
  have q7 := rV16.lt
  have q8 := rP16.lt
  have q9 := bel16.size
  have lE : w.heap.size ≤ E := by omega
  have nSE : S ≠ E := by omega
  have nES : E ≠ S := by omega
  have nBE : B ≠ E := by omega
  have nEB : E ≠ B := by omega
  have nRE : R ≠ E := by omega
  have nER : E ≠ R := by omega
  have nVE : V ≠ E := by omega
  have nEV : E ≠ V := by omega
  have nPE : P ≠ E := by omega
  have nEP : E ≠ P := by omega
  have rS20 : Row v19 S 46 (scs s) := (((rS16.old nv17.below).only ov18 nSE).only ov19 nSR)
  have rB20 : Row v19 B 70 (gcs b) := (((rB16.old nv17.below).only ov18 nBE).only ov19 nBR)
  have rR20 : Row v19 R 46 (scs zs) := (hv19.congr (allS zs_ok))
  have rV20 : Row v19 V 41 (wcs pm pl pc) := (((rV16.old nv17.below).only ov18 nVE).only ov19 nVR)
  have rP20 : Row v19 P 23 (u8s dg) := (((rP16.old nv17.below).only ov18 nPE).only ov19 nPR)
  have rE20 : Row v19 E 44 (Ep.pcs ac an) := ((hv18.congr (allP KC.out KN.out)).only ov19 nER)
  have bel20 : Below w.heap.size w v19 := (below_only (below_only (below_step bel16 (by omega) nv17.below) ov18 lE (by omega)) ov19 lR (by omega))
  clear q0 q1 q2 q3 q4 q5 q6 q7 q8 q9 rS16 rB16 rR16 rV16 rP16 bel16 Ee hv17 nv17 hv18 ov18 sv18 hv19 ov19 sv19
  exact bodyPost_ret (result_row2 (p := 4) (u := 5) (ty := 46) (t := 46) (by kernel_rfl) _ _ R (scs zs) (.int .i64 z) rfl rfl rR20 (sz_rsta zs_ok)) rfl ⟨rfl, bel20⟩
set_option maxHeartbeats 4000000 in
set_option maxRecDepth 100000 in
theorem rchild_fine1 (s : Sta) (b : Gb) (w : World) (ok : s.Ok) (rt : SRt s) (kb : b.Ok) (hk : w.rangeAt 1 0 (u32s ks)) (hf : Fine s b) (ht : s.slot / 24 < b.slot / 24) :
    Calls Tryd.prog 20 #[.agg (scs s).toArray, .agg (gcs b).toArray] w fun e w' => e = .returned (.tuple #[.agg (scs (grown s b)).toArray, .int .i64 0]) ∧ Below w.heap.size w w' := by
  have hk1 : 1 < w.heap.size := range_lt hk (by simp [u32s, ks])
  have HKW : Hid (∀ w', Below w.heap.size w w' → w'.rangeAt 1 0 (u32s ks)) := Lib.hid fun w' hb => range_block hk (hb.block _ hk1)
  have OK := Lib.hid ok; have KB := Lib.hid kb
  have h := hf.behind
  have hl := hf.len
  have hc := hf.count
  rw [show entN s.slot b.slot = 1 from if_pos ht] at hc
  have CE1 := Lib.hid (fun w0 => Slot.repoch_nat b.slot w0 kb.slot)
  have CE2 := Lib.hid (fun w0 => Slot.repoch_nat s.slot w0 ok.slot)
  have HLQ : Hid (decide ((b.slot : Int) ≤ (s.slot : Int)) = false) := Lib.hid (decide_eq_false (by omega))
  have HTU : Hid (decide (((s.slot / 24 : Nat) : Int) < ((b.slot / 24 : Nat) : Int)) = true) := Lib.hid (decide_eq_true (by omega))
  have HLM : Hid (decide ((s.len : Int) = 4294967295) = false) := Lib.hid (decide_eq_false (by omega))
  have HCM : Hid (decide ((s.count : Int) = 4294967295) = false) := Lib.hid (decide_eq_false (by omega))
  have CW := Lib.hid (fun w0 => rwput_any s.min s.last b.slot s.counts w0 ok.min ok.last kb.slot rt.1.2 ok.counts)
  have HCL := Lib.hid (putC_len s.last s.counts (b.slot / 3))
  rw [(put_yes hf.put).2.2.1] at CW
  have CH := Lib.hid (fun w0 h => rhash_any s w0 ok h)
  have CF := Lib.hid (fun w0 h => Ep.rfollow_any s.now s.next (blkOf s b) w0 ok.now ok.next (blkOf_ok ok kb) h)
  have KD := Lib.hid (digS_ok s)
  have KC := Lib.hid (Ep.ansC_ok (b := blkOf s b) ok.now ok.next)
  have KN := Lib.hid (Ep.ansN_ok (b := blkOf s b) ok.next (blkOf_ok ok kb))
  have BB := Lib.hid (built_rblkOf (blkOf_ok ok kb))
  rw [(Ep.ans_ok (c := s.now) (show (blkOf s b).fro < (blkOf s b).to from hf.behind) hf.follow).2.2] at CF
  have KG := Lib.hid (gF_ok (c := s.count) ok rt kb hl ok.count)
  have BG := Lib.hid (built_gF KG.out)
  have HAD : Hid (((s.len : Int) + 1) % 4294967296 = ((s.len + 1 : Nat) : Int)) := Lib.hid (by omega)
  have KG2 := Lib.hid (gF_ok (c := s.count + 1) ok rt kb hl hc)
  have HSET : Hid ((scs (gF s b s.count)).set 98 (.int .u32 ((s.count + 1 : Nat) : Int)) = scs (gF s b (s.count + 1))) := Lib.hid (gF_set KG.out (s.count + 1))
  have HAC : Hid (((s.count : Int) + 1) % 4294967296 = ((s.count + 1 : Nat) : Int)) := Lib.hid (by omega)
  have HLT : Hid (98 < (scs (gF s b s.count)).length) := Lib.hid (by rw [scs_len KG.out]; omega)
  have hres : grown s b = gF s b (s.count + 1) := by rw [grown_gF hf, show entN s.slot b.slot = 1 from if_pos ht]
  rw [hres]
  clear hres
  generalize gF s b (s.count + 1) = g2 at KG2 HSET ⊢
  generalize gF s b s.count = g at KG BG HSET HLT
  generalize putM s.min s.last s.counts b.slot = pm at CW BG
  generalize putL s.last s.counts (b.slot / 3) = pl at CW BG
  generalize putC s.last s.counts (b.slot / 3) = pc at CW HCL BG
  generalize ansC s.now s.next (blkOf s b) = ac at CF KC BG
  generalize ansN s.next (blkOf s b) = an at CF KN BG
  generalize blkOf s b = bk at CF BB
  generalize digS s = dg at CH BB KD BG
  clear ok rt kb hk hk1 h ht hl hc hf
  go_enter Tryd.func20, Tryd.ntmps20
  go_wp2_with (first
    | ((with_reducible refine at_slot 2 ?_); (refine arm_box (o := ⟨some 2, _, _, _, _, _⟩) rfl _ _ rfl (scs s) rfl ?_); intro S v1 Se hv1 nv1)
    | ((with_reducible refine at_slot 3 ?_); (refine arm_box (o := ⟨some 3, _, _, _, _, _⟩) rfl _ _ rfl (gcs b) rfl ?_); intro B v2 Be hv2 nv2)
    | ((with_reducible refine at_slot 4 ?_); (refine arm_alloc (o := ⟨some 4, _, _, _, _, _⟩) rfl _ rfl (scs zs) z_rsta ?_); intro R v3 Re hv3 nv3)
    | ((with_reducible refine at_slot 13 ?_); (refine arm_want (num32 b.slot) 13 rfl (by kernel_rfl) (run_op_load1 _ _ rfl (.int .u32) (by kernel_rfl) rfl ⟨B, 0, none⟩ rfl (num32 b.slot) ((hv2.old nv3.below).cell (show Has (gcs b) 0 [num32 b.slot] from g0 b).get)) ?_))
    | ((with_reducible refine at_slot 15 ?_); (refine arm_want (num32 s.slot) 15 rfl (by kernel_rfl) (run_op_load1 _ _ rfl (.int .u32) (by kernel_rfl) rfl ⟨S, 96, none⟩ rfl (num32 s.slot) (((hv1.old nv2.below).old nv3.below).cell (show Has (scs s) 96 [num32 s.slot] from h_slt OK.out).get)) ?_))
    | ((with_reducible refine at_slot 16 ?_); (refine arm_want (.bool false) 16 rfl (by kernel_rfl) (cmp_leq _ _ _ _ rfl .u32 (b.slot : Int) (s.slot : Int) rfl rfl false HLQ.out _) ?_)))
  have q0 := Se.out
  have q1 := nv1.size
  have q2 := Be.out
  have q3 := nv2.size
  have q4 := Re.out
  have q5 := nv3.size
  have lS : w.heap.size ≤ S := by omega
  have lB : w.heap.size ≤ B := by omega
  have nSB : S ≠ B := by omega
  have nBS : B ≠ S := by omega
  have lR : w.heap.size ≤ R := by omega
  have nSR : S ≠ R := by omega
  have nRS : R ≠ S := by omega
  have nBR : B ≠ R := by omega
  have nRB : R ≠ B := by omega
  have rS4 : Row v3 S 46 (scs s) := ((hv1.old nv2.below).old nv3.below)
  have rB4 : Row v3 B 70 (gcs b) := (hv2.old nv3.below)
  have rR4 : Row v3 R 46 (scs zs) := hv3
  have bel4 : Below w.heap.size w v3 := (below_step (below_step (below_step (Below.refl _ _) (by omega) nv1.below) (by omega) nv2.below) (by omega) nv3.below)
  clear q0 q1 q2 q3 q4 q5 Se hv1 nv1 Be hv2 nv2 Re hv3 nv3
  refine wp_region_held (S := fun w' => Row w' S 46 (scs s) ∧ Row w' B 70 (gcs b) ∧ True) (by kernel_rfl) ?_
  change wpAnyH _ _ _ _ _ _ _ _ v3.drew
  have rS5 : Row v3.drew S 46 (scs s) := rS4
  have rB5 : Row v3.drew B 70 (gcs b) := rB4
  have rR5 : Row v3.drew R 46 (scs zs) := rR4
  have bel5 : Below w.heap.size w v3.drew := bel4.trans ((Below.refl _ _).drew)
  clear rS4 rB4 rR4 bel4
  generalize v3.drew = y5 at rS5 rB5 rR5 bel5 ⊢
  refine h_take 0 (.pointer (some ⟨B, 0, none⟩)) rfl 18 rfl (by kernel_rfl) (by kernel_rfl) (by kernel_rfl) (by kernel_rfl) (fun _ _ _ h => h) (fun w' _ => by kernel_rfl) ⟨rS5, rB5, trivial⟩ ?_
  simp only [Act.put, List.setIfInBounds_toArray, List.set_cons_zero, List.set_cons_succ]
  refine h_take 1 (num32 b.slot) rfl 19 rfl (by kernel_rfl) (by kernel_rfl) (by kernel_rfl) (by kernel_rfl) (fun _ _ _ h => h) (fun w' hw => run_op_load1 _ _ rfl (.int .u32) (by kernel_rfl) rfl ⟨B, 0, none⟩ rfl (num32 b.slot) (hw.2.1.cell (show Has (gcs b) 0 [num32 b.slot] from g0 b).get)) ⟨rS5, rB5, trivial⟩ ?_
  simp only [Act.put, List.setIfInBounds_toArray, List.set_cons_zero, List.set_cons_succ]
  refine h_take 3 (.pointer (some ⟨S, 96, none⟩)) rfl 21 rfl (by kernel_rfl) (by kernel_rfl) (by kernel_rfl) (by kernel_rfl) (fun _ _ _ h => h) (fun w' _ => by kernel_rfl) ⟨rS5, rB5, trivial⟩ ?_
  simp only [Act.put, List.setIfInBounds_toArray, List.set_cons_zero, List.set_cons_succ]
  refine h_take 4 (num32 s.slot) rfl 22 rfl (by kernel_rfl) (by kernel_rfl) (by kernel_rfl) (by kernel_rfl) (fun _ _ _ h => h) (fun w' hw => run_op_load1 _ _ rfl (.int .u32) (by kernel_rfl) rfl ⟨S, 96, none⟩ rfl (num32 s.slot) (hw.1.cell (show Has (scs s) 96 [num32 s.slot] from h_slt OK.out).get)) ⟨rS5, rB5, trivial⟩ ?_
  simp only [Act.put, List.setIfInBounds_toArray, List.set_cons_zero, List.set_cons_succ]
  refine h_one (i := 2) (by kernel_rfl) (o_call rfl 20 rfl (by kernel_rfl) (run_op_call 18 _ _ rfl #[.int .u32 (b.slot : Int)] (by simp only [List.map_toArray, List.map_cons, List.map_nil]; rfl) Tryd.func18 (by kernel_rfl) (by kernel_rfl) _) (CE1.out y5) ?_)
  rintro e yq ⟨rfl, rfl⟩
  refine ⟨_, rfl, ⟨rS5, rB5, trivial⟩, ?_⟩
  simp only [Act.put, List.setIfInBounds_toArray, List.set_cons_zero, List.set_cons_succ]
  refine h_one (i := 5) (by kernel_rfl) (o_call rfl 23 rfl (by kernel_rfl) (run_op_call 18 _ _ rfl #[.int .u32 (s.slot : Int)] (by simp only [List.map_toArray, List.map_cons, List.map_nil]; rfl) Tryd.func18 (by kernel_rfl) (by kernel_rfl) _) (CE2.out y5) ?_)
  rintro e yq ⟨rfl, rfl⟩
  refine ⟨_, rfl, ⟨rS5, rB5, trivial⟩, ?_⟩
  simp only [Act.put, List.setIfInBounds_toArray, List.set_cons_zero, List.set_cons_succ]
  refine h_take 6 (.bool true) rfl 24 rfl (by kernel_rfl) (by kernel_rfl) (by kernel_rfl) (by kernel_rfl) (fun _ _ _ h => h) (fun w' _ => cmp_gtr _ _ _ _ rfl .u32 ((b.slot / 24 : Nat) : Int) ((s.slot / 24 : Nat) : Int) rfl rfl true HTU.out w') ⟨rS5, rB5, trivial⟩ ?_
  simp only [Act.put, List.setIfInBounds_toArray, List.set_cons_zero, List.set_cons_succ]
  refine h_take 7 (.bool true) rfl 6 rfl (by kernel_rfl) (by kernel_rfl) (by kernel_rfl) (by kernel_rfl) (fun _ _ _ h => h) (fun w' _ => by kernel_rfl) ⟨rS5, rB5, trivial⟩ ?_
  simp only [Act.put, List.setIfInBounds_toArray, List.set_cons_zero, List.set_cons_succ]
  refine wpAnyH_done (by kernel_rfl) ?_ _
  go_wp2_with (first
    | ((with_reducible refine at_slot 26 ?_); (refine arm_want (num32 s.len) 26 rfl (by kernel_rfl) (run_op_load1 _ _ rfl (.int .u32) (by kernel_rfl) rfl ⟨S, 97, none⟩ rfl (num32 s.len) (rS5.cell (show Has (scs s) 97 [num32 s.len] from h_lngth OK.out).get)) ?_))
    | ((with_reducible refine at_slot 27 ?_); (refine arm_want (.bool false) 27 rfl (by kernel_rfl) (cmp_eql _ _ .u32 (by kernel_rfl) _ _ rfl .u32 (s.len : Int) 4294967295 rfl rfl false HLM.out _) ?_))
    | ((with_reducible refine at_slot 32 ?_); (refine arm_want (num32 s.count) 32 rfl (by kernel_rfl) (run_op_load1 _ _ rfl (.int .u32) (by kernel_rfl) rfl ⟨S, 98, none⟩ rfl (num32 s.count) (rS5.cell (show Has (scs s) 98 [num32 s.count] from h_cnt OK.out).get)) ?_))
    | ((with_reducible refine at_slot 33 ?_); (refine arm_want (.bool false) 33 rfl (by kernel_rfl) (cmp_eql _ _ .u32 (by kernel_rfl) _ _ rfl .u32 (s.count : Int) 4294967295 rfl rfl false HCM.out _) ?_))
    | ((with_reducible refine at_slot 39 ?_); (refine arm_load (o := ⟨some 39, _, _, _, _, _⟩) rfl _ _ rfl S 99 rfl (Wn.wcs s.min s.last s.counts) ((show Has (scs s) 99 (Wn.wcs s.min s.last s.counts) from s_win OK.out).range (rS5)) (sz_rwin OK.out.counts) ?_))
    | ((with_reducible refine at_slot 41 ?_); (refine arm_want (num32 b.slot) 41 rfl (by kernel_rfl) (run_op_load1 _ _ rfl (.int .u32) (by kernel_rfl) rfl ⟨B, 0, none⟩ rfl (num32 b.slot) (rB5.cell (show Has (gcs b) 0 [num32 b.slot] from g0 b).get)) ?_)))
  refine (CW.out _).mono ?_
  rintro e y8 ⟨rfl, hB⟩
  have rS8 : Row y8 S 46 (scs s) := rS5.old hB
  have rB8 : Row y8 B 70 (gcs b) := rB5.old hB
  have rR8 : Row y8 R 46 (scs zs) := rR5.old hB
  have bel8 : Below w.heap.size w y8 := below_step bel5 bel5.size hB
  clear hB rS5 rB5 rR5 bel5
  go_wp2_with (first
    | ((with_reducible refine at_slot 7 ?_); (refine arm_alloc (o := ⟨some 7, _, _, _, _, _⟩) rfl _ rfl (wcs 0 0 [0, 0, 0, 0]) z_rwin ?_); intro V v9 Ve hv9 nv9)
    | ((with_reducible refine arm_store (o := ⟨none, _, _, _, _, _⟩) rfl _ _ _ rfl V 0 rfl (wcs pm pl pc) rfl _ _ (hv9) (fit6 HCL.out) (wcs_one _ _ _) (sz_rwin HCL.out) ?_); intro v10 hv10 ov10 sv10)
    | ((with_reducible refine at_slot 49 ?_); (refine arm_load (o := ⟨some 49, _, _, _, _, _⟩) rfl _ _ rfl S 0 rfl (scs s) ((show Has (scs s) 0 (scs s) from Has.refl _).range (((rS8.old nv9.below).only ov10 (by have := rS8.lt; have := Ve.out; have := nv9.size; have := sv10.out; omega)))) (sz_rsta OK.out) ?_)))
  have q0 := Ve.out
  have q1 := nv9.size
  have q2 := sv10.out
  have q3 := rS8.lt
  have q4 := rB8.lt
  have q5 := rR8.lt
  have q6 := bel8.size
  have lV : w.heap.size ≤ V := by omega
  have nSV : S ≠ V := by omega
  have nVS : V ≠ S := by omega
  have nBV : B ≠ V := by omega
  have nVB : V ≠ B := by omega
  have nRV : R ≠ V := by omega
  have nVR : V ≠ R := by omega
  have rS11 : Row v10 S 46 (scs s) := ((rS8.old nv9.below).only ov10 nSV)
  have rB11 : Row v10 B 70 (gcs b) := ((rB8.old nv9.below).only ov10 nBV)
  have rR11 : Row v10 R 46 (scs zs) := ((rR8.old nv9.below).only ov10 nRV)
  have rV11 : Row v10 V 41 (wcs pm pl pc) := (hv10.congr (lay_all _ _ (len6 HCL.out)))
  have bel11 : Below w.heap.size w v10 := (below_only (below_step bel8 (by omega) nv9.below) ov10 lV (by omega))
  clear q0 q1 q2 q3 q4 q5 q6 rS8 rB8 rR8 bel8 Ve hv9 nv9 hv10 ov10 sv10
  refine (CH.out _ (HKW.out _ bel11)).mono ?_
  rintro e y12 ⟨rfl, hB⟩
  have rS12 : Row y12 S 46 (scs s) := rS11.old hB
  have rB12 : Row y12 B 70 (gcs b) := rB11.old hB
  have rR12 : Row y12 R 46 (scs zs) := rR11.old hB
  have rV12 : Row y12 V 41 (wcs pm pl pc) := rV11.old hB
  have bel12 : Below w.heap.size w y12 := below_step bel11 bel11.size hB
  clear hB rS11 rB11 rR11 rV11 bel11
  go_wp2_with (first
    | ((with_reducible refine at_slot 9 ?_); (refine arm_alloc (o := ⟨some 9, _, _, _, _, _⟩) rfl _ rfl (u8s zh) zH ?_); intro P v13 Pe hv13 nv13)
    | ((with_reducible refine arm_store (o := ⟨none, _, _, _, _, _⟩) rfl _ _ _ rfl P 0 rfl (u8s dg) rfl _ _ (hv13) (fitH KD.out) (u8s_one _) (szH KD.out) ?_); intro v14 hv14 ov14 sv14)
    | ((with_reducible refine at_slot 53 ?_); (refine arm_load (o := ⟨some 53, _, _, _, _, _⟩) rfl _ _ rfl S 105 rfl (Ep.pcs s.now s.next) ((show Has (scs s) 105 (Ep.pcs s.now s.next) from s_eps OK.out).range (((rS12.old nv13.below).only ov14 (by have := rS12.lt; have := Pe.out; have := nv13.size; have := sv14.out; omega)))) (sz_rpair OK.out.now OK.out.next) ?_))
    | ((with_reducible refine at_slot 55 ?_); (refine arm_want (num32 s.slot) 55 rfl (by kernel_rfl) (run_op_load1 _ _ rfl (.int .u32) (by kernel_rfl) rfl ⟨S, 96, none⟩ rfl (num32 s.slot) (((rS12.old nv13.below).only ov14 (by have := rS12.lt; have := Pe.out; have := nv13.size; have := sv14.out; omega)).cell (show Has (scs s) 96 [num32 s.slot] from h_slt OK.out).get)) ?_))
    | ((with_reducible refine at_slot 57 ?_); (refine arm_want (num32 b.slot) 57 rfl (by kernel_rfl) (run_op_load1 _ _ rfl (.int .u32) (by kernel_rfl) rfl ⟨B, 0, none⟩ rfl (num32 b.slot) (((rB12.old nv13.below).only ov14 (by have := rB12.lt; have := Pe.out; have := nv13.size; have := sv14.out; omega)).cell (show Has (gcs b) 0 [num32 b.slot] from g0 b).get)) ?_))
    | ((with_reducible refine at_slot 58 ?_); (refine arm_load (o := ⟨some 58, _, _, _, _, _⟩) rfl _ _ rfl P 0 rfl (u8s dg) ((show Has (u8s dg) 0 (u8s dg) from Has.refl _).range ((hv14.congr (allH KD.out)))) (szH KD.out) ?_))
    | ((with_reducible refine at_slot 60 ?_); (refine arm_load (o := ⟨some 60, _, _, _, _, _⟩) rfl _ _ rfl S 32 rfl (u8s s.led) ((show Has (scs s) 32 (u8s s.led) from h_ledg OK.out).range (((rS12.old nv13.below).only ov14 (by have := rS12.lt; have := Pe.out; have := nv13.size; have := sv14.out; omega)))) (szH OK.out.led) ?_))
    | ((with_reducible refine at_slot 62 ?_); (refine arm_load (o := ⟨some 62, _, _, _, _, _⟩) rfl _ _ rfl B 33 rfl (u8s b.draw) ((show Has (gcs b) 33 (u8s b.draw) from g33 KB.out).range (((rB12.old nv13.below).only ov14 (by have := rB12.lt; have := Pe.out; have := nv13.size; have := sv14.out; omega)))) (szH KB.out.draw) ?_))
    | ((with_reducible refine at_slot 63 ?_); (refine arm_build (o := ⟨some 63, _, _, _, _, _⟩) rfl _ _ rfl (Ep.bcs bk) (by simp only [List.map_toArray, List.map_cons, List.map_nil]; exact BB.out) ?_)))
  have q0 := Pe.out
  have q1 := nv13.size
  have q2 := sv14.out
  have q3 := rS12.lt
  have q4 := rB12.lt
  have q5 := rR12.lt
  have q6 := rV12.lt
  have q7 := bel12.size
  have lP : w.heap.size ≤ P := by omega
  have nSP : S ≠ P := by omega
  have nPS : P ≠ S := by omega
  have nBP : B ≠ P := by omega
  have nPB : P ≠ B := by omega
  have nRP : R ≠ P := by omega
  have nPR : P ≠ R := by omega
  have nVP : V ≠ P := by omega
  have nPV : P ≠ V := by omega
  have rS15 : Row v14 S 46 (scs s) := ((rS12.old nv13.below).only ov14 nSP)
  have rB15 : Row v14 B 70 (gcs b) := ((rB12.old nv13.below).only ov14 nBP)
  have rR15 : Row v14 R 46 (scs zs) := ((rR12.old nv13.below).only ov14 nRP)
  have rV15 : Row v14 V 41 (wcs pm pl pc) := ((rV12.old nv13.below).only ov14 nVP)
  have rP15 : Row v14 P 23 (u8s dg) := (hv14.congr (allH KD.out))
  have bel15 : Below w.heap.size w v14 := (below_only (below_step bel12 (by omega) nv13.below) ov14 lP (by omega))
  clear q0 q1 q2 q3 q4 q5 q6 q7 rS12 rB12 rR12 rV12 bel12 Pe hv13 nv13 hv14 ov14 sv14
  refine (CF.out _ (HKW.out _ bel15)).mono ?_
  rintro e y16 ⟨rfl, hB⟩
  have rS16 : Row y16 S 46 (scs s) := rS15.old hB
  have rB16 : Row y16 B 70 (gcs b) := rB15.old hB
  have rR16 : Row y16 R 46 (scs zs) := rR15.old hB
  have rV16 : Row y16 V 41 (wcs pm pl pc) := rV15.old hB
  have rP16 : Row y16 P 23 (u8s dg) := rP15.old hB
  have bel16 : Below w.heap.size w y16 := below_step bel15 bel15.size hB
  clear hB rS15 rB15 rR15 rV15 rP15 bel15
  go_wp2_with (first
    | ((with_reducible refine at_slot 10 ?_); (refine arm_alloc (o := ⟨some 10, _, _, _, _, _⟩) rfl _ rfl (Ep.pcs zd zd) z_rpair ?_); intro E v17 Ee hv17 nv17)
    | ((with_reducible refine arm_store (o := ⟨none, _, _, _, _, _⟩) rfl _ _ _ rfl E 0 rfl (Ep.pcs ac an) rfl _ _ (hv17) (fitP KC.out KN.out) (Ep.pcs_one _ _) (sz_rpair KC.out KN.out) ?_); intro v18 hv18 ov18 sv18)
    | ((with_reducible refine at_slot 71 ?_); (refine arm_load (o := ⟨some 71, _, _, _, _, _⟩) rfl _ _ rfl P 0 rfl (u8s dg) ((show Has (u8s dg) 0 (u8s dg) from Has.refl _).range (((rP16.old nv17.below).only ov18 (by have := rP16.lt; have := Ee.out; have := nv17.size; have := sv18.out; omega)))) (szH KD.out) ?_))
    | ((with_reducible refine at_slot 73 ?_); (refine arm_load (o := ⟨some 73, _, _, _, _, _⟩) rfl _ _ rfl B 1 rfl (u8s b.led) ((show Has (gcs b) 1 (u8s b.led) from g1 b).range (((rB16.old nv17.below).only ov18 (by have := rB16.lt; have := Ee.out; have := nv17.size; have := sv18.out; omega)))) (szH KB.out.led) ?_))
    | ((with_reducible refine at_slot 75 ?_); (refine arm_load (o := ⟨some 75, _, _, _, _, _⟩) rfl _ _ rfl B 33 rfl (u8s b.draw) ((show Has (gcs b) 33 (u8s b.draw) from g33 KB.out).range (((rB16.old nv17.below).only ov18 (by have := rB16.lt; have := Ee.out; have := nv17.size; have := sv18.out; omega)))) (szH KB.out.draw) ?_))
    | ((with_reducible refine at_slot 77 ?_); (refine arm_want (num32 b.slot) 77 rfl (by kernel_rfl) (run_op_load1 _ _ rfl (.int .u32) (by kernel_rfl) rfl ⟨B, 0, none⟩ rfl (num32 b.slot) (((rB16.old nv17.below).only ov18 (by have := rB16.lt; have := Ee.out; have := nv17.size; have := sv18.out; omega)).cell (show Has (gcs b) 0 [num32 b.slot] from g0 b).get)) ?_))
    | ((with_reducible refine at_slot 79 ?_); (refine arm_want (num32 s.len) 79 rfl (by kernel_rfl) (run_op_load1 _ _ rfl (.int .u32) (by kernel_rfl) rfl ⟨S, 97, none⟩ rfl (num32 s.len) (((rS16.old nv17.below).only ov18 (by have := rS16.lt; have := Ee.out; have := nv17.size; have := sv18.out; omega)).cell (show Has (scs s) 97 [num32 s.len] from h_lngth OK.out).get)) ?_))
    | ((with_reducible refine at_slot 80 ?_); (refine arm_want (.int .u32 ((s.len + 1 : Nat) : Int)) 80 rfl (by kernel_rfl) (run_op_add32 _ _ _ _ rfl (s.len : Int) 1 _ rfl rfl HAD.out _) ?_))
    | ((with_reducible refine at_slot 82 ?_); (refine arm_want (num32 s.count) 82 rfl (by kernel_rfl) (run_op_load1 _ _ rfl (.int .u32) (by kernel_rfl) rfl ⟨S, 98, none⟩ rfl (num32 s.count) (((rS16.old nv17.below).only ov18 (by have := rS16.lt; have := Ee.out; have := nv17.size; have := sv18.out; omega)).cell (show Has (scs s) 98 [num32 s.count] from h_cnt OK.out).get)) ?_))
    | ((with_reducible refine at_slot 83 ?_); (refine arm_load (o := ⟨some 83, _, _, _, _, _⟩) rfl _ _ rfl V 0 rfl (wcs pm pl pc) ((show Has (wcs pm pl pc) 0 (wcs pm pl pc) from Has.refl _).range (((rV16.old nv17.below).only ov18 (by have := rV16.lt; have := Ee.out; have := nv17.size; have := sv18.out; omega)))) (sz_rwin HCL.out) ?_))
    | ((with_reducible refine at_slot 84 ?_); (refine arm_load (o := ⟨some 84, _, _, _, _, _⟩) rfl _ _ rfl E 0 rfl (Ep.pcs ac an) ((show Has (Ep.pcs ac an) 0 (Ep.pcs ac an) from Has.refl _).range ((hv18.congr (allP KC.out KN.out)))) (sz_rpair KC.out KN.out) ?_))
    | ((with_reducible refine at_slot 85 ?_); (refine arm_build (o := ⟨some 85, _, _, _, _, _⟩) rfl _ _ rfl (scs g) (by simp only [List.map_toArray, List.map_cons, List.map_nil]; exact BG.out) ?_))
    | ((with_reducible refine at_slot 11 ?_); (refine arm_alloc (o := ⟨some 11, _, _, _, _, _⟩) rfl _ rfl (scs zs) z_rsta ?_); intro N v19 Ne hv19 nv19)
    | ((with_reducible refine arm_store (o := ⟨none, _, _, _, _, _⟩) rfl _ _ _ rfl N 0 rfl (scs g) rfl _ _ (hv19) (fitS KG.out) (scs_one _) (sz_rsta KG.out) ?_); intro v20 hv20 ov20 sv20)
    | ((with_reducible refine at_slot 88 ?_); (refine arm_want (num32 s.count) 88 rfl (by kernel_rfl) (run_op_load1 _ _ rfl (.int .u32) (by kernel_rfl) rfl ⟨S, 98, none⟩ rfl (num32 s.count) (((((rS16.old nv17.below).only ov18 (by have := rS16.lt; have := Ee.out; have := nv17.size; have := sv18.out; have := Ne.out; have := nv19.size; have := sv20.out; omega)).old nv19.below).only ov20 (by have := rS16.lt; have := Ee.out; have := nv17.size; have := sv18.out; have := Ne.out; have := nv19.size; have := sv20.out; omega)).cell (show Has (scs s) 98 [num32 s.count] from h_cnt OK.out).get)) ?_))
    | ((with_reducible refine at_slot 89 ?_); (refine arm_want (.int .u32 ((s.count + 1 : Nat) : Int)) 89 rfl (by kernel_rfl) (run_op_add32 _ _ _ _ rfl (s.count : Int) 1 _ rfl rfl HAC.out _) ?_))
    | ((with_reducible refine arm_store1 (o := ⟨none, _, _, _, _, _⟩) rfl _ _ _ rfl N 98 rfl .u32 (((s.count + 1 : Nat) : Int)) rfl (by kernel_rfl) _ _ ((hv20.congr (allS KG.out))) HLT.out ?_); intro v21 hv21 ov21 sv21)
    | ((with_reducible refine at_slot 91 ?_); (refine arm_load (o := ⟨some 91, _, _, _, _, _⟩) rfl _ _ rfl N 0 rfl (scs g2) ((show Has (scs g2) 0 (scs g2) from Has.refl _).range ((hv21.congr HSET.out))) (sz_rsta KG2.out) ?_))
    | ((with_reducible refine arm_store (o := ⟨none, _, _, _, _, _⟩) rfl _ _ _ rfl R 0 rfl (scs g2) rfl _ _ ((((((rR16.old nv17.below).only ov18 (by have := rR16.lt; have := Ee.out; have := nv17.size; have := sv18.out; have := Ne.out; have := nv19.size; have := sv20.out; have := sv21.out; omega)).old nv19.below).only ov20 (by have := rR16.lt; have := Ee.out; have := nv17.size; have := sv18.out; have := Ne.out; have := nv19.size; have := sv20.out; have := sv21.out; omega)).only ov21 (by have := rR16.lt; have := Ee.out; have := nv17.size; have := sv18.out; have := Ne.out; have := nv19.size; have := sv20.out; have := sv21.out; omega))) (fitS KG2.out) (scs_one _) (sz_rsta KG2.out) ?_); intro v22 hv22 ov22 sv22))
  have q0 := Ee.out
  have q1 := nv17.size
  have q2 := sv18.out
  have q3 := Ne.out
  have q4 := nv19.size
  have q5 := sv20.out
  have q6 := sv21.out
  have q7 := sv22.out
  have q8 := rS16.lt
  have q9 := rB16.lt
  have q10 := rR16.lt
  have q11 := rV16.lt
  have q12 := rP16.lt
  have q13 := bel16.size
  have lE : w.heap.size ≤ E := by omega
  have nSE : S ≠ E := by omega
  have nES : E ≠ S := by omega
  have nBE : B ≠ E := by omega
  have nEB : E ≠ B := by omega
  have nRE : R ≠ E := by omega
  have nER : E ≠ R := by omega
  have nVE : V ≠ E := by omega
  have nEV : E ≠ V := by omega
  have nPE : P ≠ E := by omega
  have nEP : E ≠ P := by omega
  have lN : w.heap.size ≤ N := by omega
  have nSN : S ≠ N := by omega
  have nNS : N ≠ S := by omega
  have nBN : B ≠ N := by omega
  have nNB : N ≠ B := by omega
  have nRN : R ≠ N := by omega
  have nNR : N ≠ R := by omega
  have nVN : V ≠ N := by omega
  have nNV : N ≠ V := by omega
  have nPN : P ≠ N := by omega
  have nNP : N ≠ P := by omega
  have nEN : E ≠ N := by omega
  have nNE : N ≠ E := by omega
  have rS23 : Row v22 S 46 (scs s) := ((((((rS16.old nv17.below).only ov18 nSE).old nv19.below).only ov20 nSN).only ov21 nSN).only ov22 nSR)
  have rB23 : Row v22 B 70 (gcs b) := ((((((rB16.old nv17.below).only ov18 nBE).old nv19.below).only ov20 nBN).only ov21 nBN).only ov22 nBR)
  have rR23 : Row v22 R 46 (scs g2) := (hv22.congr (allS KG2.out))
  have rV23 : Row v22 V 41 (wcs pm pl pc) := ((((((rV16.old nv17.below).only ov18 nVE).old nv19.below).only ov20 nVN).only ov21 nVN).only ov22 nVR)
  have rP23 : Row v22 P 23 (u8s dg) := ((((((rP16.old nv17.below).only ov18 nPE).old nv19.below).only ov20 nPN).only ov21 nPN).only ov22 nPR)
  have rE23 : Row v22 E 44 (Ep.pcs ac an) := (((((hv18.congr (allP KC.out KN.out)).old nv19.below).only ov20 nEN).only ov21 nEN).only ov22 nER)
  have rN23 : Row v22 N 46 (scs g2) := ((hv21.congr HSET.out).only ov22 nNR)
  have bel23 : Below w.heap.size w v22 := (below_only (below_only (below_only (below_step (below_only (below_step bel16 (by omega) nv17.below) ov18 lE (by omega)) (by omega) nv19.below) ov20 lN (by omega)) ov21 lN (by omega)) ov22 lR (by omega))
  clear q0 q1 q2 q3 q4 q5 q6 q7 q8 q9 q10 q11 q12 q13 rS16 rB16 rR16 rV16 rP16 bel16 Ee hv17 nv17 hv18 ov18 sv18 Ne hv19 nv19 hv20 ov20 sv20 hv21 ov21 sv21 hv22 ov22 sv22
  exact bodyPost_ret (result_row2 (p := 4) (u := 5) (ty := 46) (t := 46) (by kernel_rfl) _ _ R (scs g2) (.int .i64 0) rfl rfl rR23 (sz_rsta KG2.out)) rfl ⟨rfl, bel23⟩
set_option maxHeartbeats 4000000 in
set_option maxRecDepth 100000 in
theorem rchild_fine2 (s : Sta) (b : Gb) (w : World) (ok : s.Ok) (rt : SRt s) (kb : b.Ok) (hk : w.rangeAt 1 0 (u32s ks)) (hf : Fine s b) (ht : ¬ s.slot / 24 < b.slot / 24) :
    Calls Tryd.prog 20 #[.agg (scs s).toArray, .agg (gcs b).toArray] w fun e w' => e = .returned (.tuple #[.agg (scs (grown s b)).toArray, .int .i64 0]) ∧ Below w.heap.size w w' := by
  have hk1 : 1 < w.heap.size := range_lt hk (by simp [u32s, ks])
  have HKW : Hid (∀ w', Below w.heap.size w w' → w'.rangeAt 1 0 (u32s ks)) := Lib.hid fun w' hb => range_block hk (hb.block _ hk1)
  have OK := Lib.hid ok; have KB := Lib.hid kb
  have h := hf.behind
  have hl := hf.len
  have hc := hf.count
  rw [show entN s.slot b.slot = 0 from if_neg ht] at hc
  have CE1 := Lib.hid (fun w0 => Slot.repoch_nat b.slot w0 kb.slot)
  have CE2 := Lib.hid (fun w0 => Slot.repoch_nat s.slot w0 ok.slot)
  have HLQ : Hid (decide ((b.slot : Int) ≤ (s.slot : Int)) = false) := Lib.hid (decide_eq_false (by omega))
  have HTU : Hid (decide (((s.slot / 24 : Nat) : Int) < ((b.slot / 24 : Nat) : Int)) = false) := Lib.hid (decide_eq_false (by omega))
  have HLM : Hid (decide ((s.len : Int) = 4294967295) = false) := Lib.hid (decide_eq_false (by omega))
  have CW := Lib.hid (fun w0 => rwput_any s.min s.last b.slot s.counts w0 ok.min ok.last kb.slot rt.1.2 ok.counts)
  have HCL := Lib.hid (putC_len s.last s.counts (b.slot / 3))
  rw [(put_yes hf.put).2.2.1] at CW
  have CH := Lib.hid (fun w0 h => rhash_any s w0 ok h)
  have CF := Lib.hid (fun w0 h => Ep.rfollow_any s.now s.next (blkOf s b) w0 ok.now ok.next (blkOf_ok ok kb) h)
  have KD := Lib.hid (digS_ok s)
  have KC := Lib.hid (Ep.ansC_ok (b := blkOf s b) ok.now ok.next)
  have KN := Lib.hid (Ep.ansN_ok (b := blkOf s b) ok.next (blkOf_ok ok kb))
  have BB := Lib.hid (built_rblkOf (blkOf_ok ok kb))
  rw [(Ep.ans_ok (c := s.now) (show (blkOf s b).fro < (blkOf s b).to from hf.behind) hf.follow).2.2] at CF
  have KG := Lib.hid (gF_ok (c := s.count) ok rt kb hl ok.count)
  have BG := Lib.hid (built_gF KG.out)
  have HAD : Hid (((s.len : Int) + 1) % 4294967296 = ((s.len + 1 : Nat) : Int)) := Lib.hid (by omega)
  have hres : grown s b = gF s b s.count := by rw [grown_gF hf, show entN s.slot b.slot = 0 from if_neg ht]; rfl
  rw [hres]
  clear hres
  generalize gF s b s.count = g at KG BG ⊢
  generalize putM s.min s.last s.counts b.slot = pm at CW BG
  generalize putL s.last s.counts (b.slot / 3) = pl at CW BG
  generalize putC s.last s.counts (b.slot / 3) = pc at CW HCL BG
  generalize ansC s.now s.next (blkOf s b) = ac at CF KC BG
  generalize ansN s.next (blkOf s b) = an at CF KN BG
  generalize blkOf s b = bk at CF BB
  generalize digS s = dg at CH BB KD BG
  clear ok rt kb hk hk1 h ht hl hc hf
  go_enter Tryd.func20, Tryd.ntmps20
  go_wp2_with (first
    | ((with_reducible refine at_slot 2 ?_); (refine arm_box (o := ⟨some 2, _, _, _, _, _⟩) rfl _ _ rfl (scs s) rfl ?_); intro S v1 Se hv1 nv1)
    | ((with_reducible refine at_slot 3 ?_); (refine arm_box (o := ⟨some 3, _, _, _, _, _⟩) rfl _ _ rfl (gcs b) rfl ?_); intro B v2 Be hv2 nv2)
    | ((with_reducible refine at_slot 4 ?_); (refine arm_alloc (o := ⟨some 4, _, _, _, _, _⟩) rfl _ rfl (scs zs) z_rsta ?_); intro R v3 Re hv3 nv3)
    | ((with_reducible refine at_slot 13 ?_); (refine arm_want (num32 b.slot) 13 rfl (by kernel_rfl) (run_op_load1 _ _ rfl (.int .u32) (by kernel_rfl) rfl ⟨B, 0, none⟩ rfl (num32 b.slot) ((hv2.old nv3.below).cell (show Has (gcs b) 0 [num32 b.slot] from g0 b).get)) ?_))
    | ((with_reducible refine at_slot 15 ?_); (refine arm_want (num32 s.slot) 15 rfl (by kernel_rfl) (run_op_load1 _ _ rfl (.int .u32) (by kernel_rfl) rfl ⟨S, 96, none⟩ rfl (num32 s.slot) (((hv1.old nv2.below).old nv3.below).cell (show Has (scs s) 96 [num32 s.slot] from h_slt OK.out).get)) ?_))
    | ((with_reducible refine at_slot 16 ?_); (refine arm_want (.bool false) 16 rfl (by kernel_rfl) (cmp_leq _ _ _ _ rfl .u32 (b.slot : Int) (s.slot : Int) rfl rfl false HLQ.out _) ?_)))
  have q0 := Se.out
  have q1 := nv1.size
  have q2 := Be.out
  have q3 := nv2.size
  have q4 := Re.out
  have q5 := nv3.size
  have lS : w.heap.size ≤ S := by omega
  have lB : w.heap.size ≤ B := by omega
  have nSB : S ≠ B := by omega
  have nBS : B ≠ S := by omega
  have lR : w.heap.size ≤ R := by omega
  have nSR : S ≠ R := by omega
  have nRS : R ≠ S := by omega
  have nBR : B ≠ R := by omega
  have nRB : R ≠ B := by omega
  have rS4 : Row v3 S 46 (scs s) := ((hv1.old nv2.below).old nv3.below)
  have rB4 : Row v3 B 70 (gcs b) := (hv2.old nv3.below)
  have rR4 : Row v3 R 46 (scs zs) := hv3
  have bel4 : Below w.heap.size w v3 := (below_step (below_step (below_step (Below.refl _ _) (by omega) nv1.below) (by omega) nv2.below) (by omega) nv3.below)
  clear q0 q1 q2 q3 q4 q5 Se hv1 nv1 Be hv2 nv2 Re hv3 nv3
  refine wp_region_held (S := fun w' => Row w' S 46 (scs s) ∧ Row w' B 70 (gcs b) ∧ True) (by kernel_rfl) ?_
  change wpAnyH _ _ _ _ _ _ _ _ v3.drew
  have rS5 : Row v3.drew S 46 (scs s) := rS4
  have rB5 : Row v3.drew B 70 (gcs b) := rB4
  have rR5 : Row v3.drew R 46 (scs zs) := rR4
  have bel5 : Below w.heap.size w v3.drew := bel4.trans ((Below.refl _ _).drew)
  clear rS4 rB4 rR4 bel4
  generalize v3.drew = y5 at rS5 rB5 rR5 bel5 ⊢
  refine h_take 0 (.pointer (some ⟨B, 0, none⟩)) rfl 18 rfl (by kernel_rfl) (by kernel_rfl) (by kernel_rfl) (by kernel_rfl) (fun _ _ _ h => h) (fun w' _ => by kernel_rfl) ⟨rS5, rB5, trivial⟩ ?_
  simp only [Act.put, List.setIfInBounds_toArray, List.set_cons_zero, List.set_cons_succ]
  refine h_take 1 (num32 b.slot) rfl 19 rfl (by kernel_rfl) (by kernel_rfl) (by kernel_rfl) (by kernel_rfl) (fun _ _ _ h => h) (fun w' hw => run_op_load1 _ _ rfl (.int .u32) (by kernel_rfl) rfl ⟨B, 0, none⟩ rfl (num32 b.slot) (hw.2.1.cell (show Has (gcs b) 0 [num32 b.slot] from g0 b).get)) ⟨rS5, rB5, trivial⟩ ?_
  simp only [Act.put, List.setIfInBounds_toArray, List.set_cons_zero, List.set_cons_succ]
  refine h_take 3 (.pointer (some ⟨S, 96, none⟩)) rfl 21 rfl (by kernel_rfl) (by kernel_rfl) (by kernel_rfl) (by kernel_rfl) (fun _ _ _ h => h) (fun w' _ => by kernel_rfl) ⟨rS5, rB5, trivial⟩ ?_
  simp only [Act.put, List.setIfInBounds_toArray, List.set_cons_zero, List.set_cons_succ]
  refine h_take 4 (num32 s.slot) rfl 22 rfl (by kernel_rfl) (by kernel_rfl) (by kernel_rfl) (by kernel_rfl) (fun _ _ _ h => h) (fun w' hw => run_op_load1 _ _ rfl (.int .u32) (by kernel_rfl) rfl ⟨S, 96, none⟩ rfl (num32 s.slot) (hw.1.cell (show Has (scs s) 96 [num32 s.slot] from h_slt OK.out).get)) ⟨rS5, rB5, trivial⟩ ?_
  simp only [Act.put, List.setIfInBounds_toArray, List.set_cons_zero, List.set_cons_succ]
  refine h_one (i := 2) (by kernel_rfl) (o_call rfl 20 rfl (by kernel_rfl) (run_op_call 18 _ _ rfl #[.int .u32 (b.slot : Int)] (by simp only [List.map_toArray, List.map_cons, List.map_nil]; rfl) Tryd.func18 (by kernel_rfl) (by kernel_rfl) _) (CE1.out y5) ?_)
  rintro e yq ⟨rfl, rfl⟩
  refine ⟨_, rfl, ⟨rS5, rB5, trivial⟩, ?_⟩
  simp only [Act.put, List.setIfInBounds_toArray, List.set_cons_zero, List.set_cons_succ]
  refine h_one (i := 5) (by kernel_rfl) (o_call rfl 23 rfl (by kernel_rfl) (run_op_call 18 _ _ rfl #[.int .u32 (s.slot : Int)] (by simp only [List.map_toArray, List.map_cons, List.map_nil]; rfl) Tryd.func18 (by kernel_rfl) (by kernel_rfl) _) (CE2.out y5) ?_)
  rintro e yq ⟨rfl, rfl⟩
  refine ⟨_, rfl, ⟨rS5, rB5, trivial⟩, ?_⟩
  simp only [Act.put, List.setIfInBounds_toArray, List.set_cons_zero, List.set_cons_succ]
  refine h_take 6 (.bool false) rfl 24 rfl (by kernel_rfl) (by kernel_rfl) (by kernel_rfl) (by kernel_rfl) (fun _ _ _ h => h) (fun w' _ => cmp_gtr _ _ _ _ rfl .u32 ((b.slot / 24 : Nat) : Int) ((s.slot / 24 : Nat) : Int) rfl rfl false HTU.out w') ⟨rS5, rB5, trivial⟩ ?_
  simp only [Act.put, List.setIfInBounds_toArray, List.set_cons_zero, List.set_cons_succ]
  refine h_take 7 (.bool false) rfl 6 rfl (by kernel_rfl) (by kernel_rfl) (by kernel_rfl) (by kernel_rfl) (fun _ _ _ h => h) (fun w' _ => by kernel_rfl) ⟨rS5, rB5, trivial⟩ ?_
  simp only [Act.put, List.setIfInBounds_toArray, List.set_cons_zero, List.set_cons_succ]
  refine wpAnyH_done (by kernel_rfl) ?_ _
  go_wp2_with (first
    | ((with_reducible refine at_slot 26 ?_); (refine arm_want (num32 s.len) 26 rfl (by kernel_rfl) (run_op_load1 _ _ rfl (.int .u32) (by kernel_rfl) rfl ⟨S, 97, none⟩ rfl (num32 s.len) (rS5.cell (show Has (scs s) 97 [num32 s.len] from h_lngth OK.out).get)) ?_))
    | ((with_reducible refine at_slot 27 ?_); (refine arm_want (.bool false) 27 rfl (by kernel_rfl) (cmp_eql _ _ .u32 (by kernel_rfl) _ _ rfl .u32 (s.len : Int) 4294967295 rfl rfl false HLM.out _) ?_))
    | ((with_reducible refine at_slot 39 ?_); (refine arm_load (o := ⟨some 39, _, _, _, _, _⟩) rfl _ _ rfl S 99 rfl (Wn.wcs s.min s.last s.counts) ((show Has (scs s) 99 (Wn.wcs s.min s.last s.counts) from s_win OK.out).range (rS5)) (sz_rwin OK.out.counts) ?_))
    | ((with_reducible refine at_slot 41 ?_); (refine arm_want (num32 b.slot) 41 rfl (by kernel_rfl) (run_op_load1 _ _ rfl (.int .u32) (by kernel_rfl) rfl ⟨B, 0, none⟩ rfl (num32 b.slot) (rB5.cell (show Has (gcs b) 0 [num32 b.slot] from g0 b).get)) ?_)))
  refine (CW.out _).mono ?_
  rintro e y8 ⟨rfl, hB⟩
  have rS8 : Row y8 S 46 (scs s) := rS5.old hB
  have rB8 : Row y8 B 70 (gcs b) := rB5.old hB
  have rR8 : Row y8 R 46 (scs zs) := rR5.old hB
  have bel8 : Below w.heap.size w y8 := below_step bel5 bel5.size hB
  clear hB rS5 rB5 rR5 bel5
  go_wp2_with (first
    | ((with_reducible refine at_slot 7 ?_); (refine arm_alloc (o := ⟨some 7, _, _, _, _, _⟩) rfl _ rfl (wcs 0 0 [0, 0, 0, 0]) z_rwin ?_); intro V v9 Ve hv9 nv9)
    | ((with_reducible refine arm_store (o := ⟨none, _, _, _, _, _⟩) rfl _ _ _ rfl V 0 rfl (wcs pm pl pc) rfl _ _ (hv9) (fit6 HCL.out) (wcs_one _ _ _) (sz_rwin HCL.out) ?_); intro v10 hv10 ov10 sv10)
    | ((with_reducible refine at_slot 49 ?_); (refine arm_load (o := ⟨some 49, _, _, _, _, _⟩) rfl _ _ rfl S 0 rfl (scs s) ((show Has (scs s) 0 (scs s) from Has.refl _).range (((rS8.old nv9.below).only ov10 (by have := rS8.lt; have := Ve.out; have := nv9.size; have := sv10.out; omega)))) (sz_rsta OK.out) ?_)))
  have q0 := Ve.out
  have q1 := nv9.size
  have q2 := sv10.out
  have q3 := rS8.lt
  have q4 := rB8.lt
  have q5 := rR8.lt
  have q6 := bel8.size
  have lV : w.heap.size ≤ V := by omega
  have nSV : S ≠ V := by omega
  have nVS : V ≠ S := by omega
  have nBV : B ≠ V := by omega
  have nVB : V ≠ B := by omega
  have nRV : R ≠ V := by omega
  have nVR : V ≠ R := by omega
  have rS11 : Row v10 S 46 (scs s) := ((rS8.old nv9.below).only ov10 nSV)
  have rB11 : Row v10 B 70 (gcs b) := ((rB8.old nv9.below).only ov10 nBV)
  have rR11 : Row v10 R 46 (scs zs) := ((rR8.old nv9.below).only ov10 nRV)
  have rV11 : Row v10 V 41 (wcs pm pl pc) := (hv10.congr (lay_all _ _ (len6 HCL.out)))
  have bel11 : Below w.heap.size w v10 := (below_only (below_step bel8 (by omega) nv9.below) ov10 lV (by omega))
  clear q0 q1 q2 q3 q4 q5 q6 rS8 rB8 rR8 bel8 Ve hv9 nv9 hv10 ov10 sv10
  refine (CH.out _ (HKW.out _ bel11)).mono ?_
  rintro e y12 ⟨rfl, hB⟩
  have rS12 : Row y12 S 46 (scs s) := rS11.old hB
  have rB12 : Row y12 B 70 (gcs b) := rB11.old hB
  have rR12 : Row y12 R 46 (scs zs) := rR11.old hB
  have rV12 : Row y12 V 41 (wcs pm pl pc) := rV11.old hB
  have bel12 : Below w.heap.size w y12 := below_step bel11 bel11.size hB
  clear hB rS11 rB11 rR11 rV11 bel11
  go_wp2_with (first
    | ((with_reducible refine at_slot 9 ?_); (refine arm_alloc (o := ⟨some 9, _, _, _, _, _⟩) rfl _ rfl (u8s zh) zH ?_); intro P v13 Pe hv13 nv13)
    | ((with_reducible refine arm_store (o := ⟨none, _, _, _, _, _⟩) rfl _ _ _ rfl P 0 rfl (u8s dg) rfl _ _ (hv13) (fitH KD.out) (u8s_one _) (szH KD.out) ?_); intro v14 hv14 ov14 sv14)
    | ((with_reducible refine at_slot 53 ?_); (refine arm_load (o := ⟨some 53, _, _, _, _, _⟩) rfl _ _ rfl S 105 rfl (Ep.pcs s.now s.next) ((show Has (scs s) 105 (Ep.pcs s.now s.next) from s_eps OK.out).range (((rS12.old nv13.below).only ov14 (by have := rS12.lt; have := Pe.out; have := nv13.size; have := sv14.out; omega)))) (sz_rpair OK.out.now OK.out.next) ?_))
    | ((with_reducible refine at_slot 55 ?_); (refine arm_want (num32 s.slot) 55 rfl (by kernel_rfl) (run_op_load1 _ _ rfl (.int .u32) (by kernel_rfl) rfl ⟨S, 96, none⟩ rfl (num32 s.slot) (((rS12.old nv13.below).only ov14 (by have := rS12.lt; have := Pe.out; have := nv13.size; have := sv14.out; omega)).cell (show Has (scs s) 96 [num32 s.slot] from h_slt OK.out).get)) ?_))
    | ((with_reducible refine at_slot 57 ?_); (refine arm_want (num32 b.slot) 57 rfl (by kernel_rfl) (run_op_load1 _ _ rfl (.int .u32) (by kernel_rfl) rfl ⟨B, 0, none⟩ rfl (num32 b.slot) (((rB12.old nv13.below).only ov14 (by have := rB12.lt; have := Pe.out; have := nv13.size; have := sv14.out; omega)).cell (show Has (gcs b) 0 [num32 b.slot] from g0 b).get)) ?_))
    | ((with_reducible refine at_slot 58 ?_); (refine arm_load (o := ⟨some 58, _, _, _, _, _⟩) rfl _ _ rfl P 0 rfl (u8s dg) ((show Has (u8s dg) 0 (u8s dg) from Has.refl _).range ((hv14.congr (allH KD.out)))) (szH KD.out) ?_))
    | ((with_reducible refine at_slot 60 ?_); (refine arm_load (o := ⟨some 60, _, _, _, _, _⟩) rfl _ _ rfl S 32 rfl (u8s s.led) ((show Has (scs s) 32 (u8s s.led) from h_ledg OK.out).range (((rS12.old nv13.below).only ov14 (by have := rS12.lt; have := Pe.out; have := nv13.size; have := sv14.out; omega)))) (szH OK.out.led) ?_))
    | ((with_reducible refine at_slot 62 ?_); (refine arm_load (o := ⟨some 62, _, _, _, _, _⟩) rfl _ _ rfl B 33 rfl (u8s b.draw) ((show Has (gcs b) 33 (u8s b.draw) from g33 KB.out).range (((rB12.old nv13.below).only ov14 (by have := rB12.lt; have := Pe.out; have := nv13.size; have := sv14.out; omega)))) (szH KB.out.draw) ?_))
    | ((with_reducible refine at_slot 63 ?_); (refine arm_build (o := ⟨some 63, _, _, _, _, _⟩) rfl _ _ rfl (Ep.bcs bk) (by simp only [List.map_toArray, List.map_cons, List.map_nil]; exact BB.out) ?_)))
  have q0 := Pe.out
  have q1 := nv13.size
  have q2 := sv14.out
  have q3 := rS12.lt
  have q4 := rB12.lt
  have q5 := rR12.lt
  have q6 := rV12.lt
  have q7 := bel12.size
  have lP : w.heap.size ≤ P := by omega
  have nSP : S ≠ P := by omega
  have nPS : P ≠ S := by omega
  have nBP : B ≠ P := by omega
  have nPB : P ≠ B := by omega
  have nRP : R ≠ P := by omega
  have nPR : P ≠ R := by omega
  have nVP : V ≠ P := by omega
  have nPV : P ≠ V := by omega
  have rS15 : Row v14 S 46 (scs s) := ((rS12.old nv13.below).only ov14 nSP)
  have rB15 : Row v14 B 70 (gcs b) := ((rB12.old nv13.below).only ov14 nBP)
  have rR15 : Row v14 R 46 (scs zs) := ((rR12.old nv13.below).only ov14 nRP)
  have rV15 : Row v14 V 41 (wcs pm pl pc) := ((rV12.old nv13.below).only ov14 nVP)
  have rP15 : Row v14 P 23 (u8s dg) := (hv14.congr (allH KD.out))
  have bel15 : Below w.heap.size w v14 := (below_only (below_step bel12 (by omega) nv13.below) ov14 lP (by omega))
  clear q0 q1 q2 q3 q4 q5 q6 q7 rS12 rB12 rR12 rV12 bel12 Pe hv13 nv13 hv14 ov14 sv14
  refine (CF.out _ (HKW.out _ bel15)).mono ?_
  rintro e y16 ⟨rfl, hB⟩
  have rS16 : Row y16 S 46 (scs s) := rS15.old hB
  have rB16 : Row y16 B 70 (gcs b) := rB15.old hB
  have rR16 : Row y16 R 46 (scs zs) := rR15.old hB
  have rV16 : Row y16 V 41 (wcs pm pl pc) := rV15.old hB
  have rP16 : Row y16 P 23 (u8s dg) := rP15.old hB
  have bel16 : Below w.heap.size w y16 := below_step bel15 bel15.size hB
  clear hB rS15 rB15 rR15 rV15 rP15 bel15
  go_wp2_with (first
    | ((with_reducible refine at_slot 10 ?_); (refine arm_alloc (o := ⟨some 10, _, _, _, _, _⟩) rfl _ rfl (Ep.pcs zd zd) z_rpair ?_); intro E v17 Ee hv17 nv17)
    | ((with_reducible refine arm_store (o := ⟨none, _, _, _, _, _⟩) rfl _ _ _ rfl E 0 rfl (Ep.pcs ac an) rfl _ _ (hv17) (fitP KC.out KN.out) (Ep.pcs_one _ _) (sz_rpair KC.out KN.out) ?_); intro v18 hv18 ov18 sv18)
    | ((with_reducible refine at_slot 71 ?_); (refine arm_load (o := ⟨some 71, _, _, _, _, _⟩) rfl _ _ rfl P 0 rfl (u8s dg) ((show Has (u8s dg) 0 (u8s dg) from Has.refl _).range (((rP16.old nv17.below).only ov18 (by have := rP16.lt; have := Ee.out; have := nv17.size; have := sv18.out; omega)))) (szH KD.out) ?_))
    | ((with_reducible refine at_slot 73 ?_); (refine arm_load (o := ⟨some 73, _, _, _, _, _⟩) rfl _ _ rfl B 1 rfl (u8s b.led) ((show Has (gcs b) 1 (u8s b.led) from g1 b).range (((rB16.old nv17.below).only ov18 (by have := rB16.lt; have := Ee.out; have := nv17.size; have := sv18.out; omega)))) (szH KB.out.led) ?_))
    | ((with_reducible refine at_slot 75 ?_); (refine arm_load (o := ⟨some 75, _, _, _, _, _⟩) rfl _ _ rfl B 33 rfl (u8s b.draw) ((show Has (gcs b) 33 (u8s b.draw) from g33 KB.out).range (((rB16.old nv17.below).only ov18 (by have := rB16.lt; have := Ee.out; have := nv17.size; have := sv18.out; omega)))) (szH KB.out.draw) ?_))
    | ((with_reducible refine at_slot 77 ?_); (refine arm_want (num32 b.slot) 77 rfl (by kernel_rfl) (run_op_load1 _ _ rfl (.int .u32) (by kernel_rfl) rfl ⟨B, 0, none⟩ rfl (num32 b.slot) (((rB16.old nv17.below).only ov18 (by have := rB16.lt; have := Ee.out; have := nv17.size; have := sv18.out; omega)).cell (show Has (gcs b) 0 [num32 b.slot] from g0 b).get)) ?_))
    | ((with_reducible refine at_slot 79 ?_); (refine arm_want (num32 s.len) 79 rfl (by kernel_rfl) (run_op_load1 _ _ rfl (.int .u32) (by kernel_rfl) rfl ⟨S, 97, none⟩ rfl (num32 s.len) (((rS16.old nv17.below).only ov18 (by have := rS16.lt; have := Ee.out; have := nv17.size; have := sv18.out; omega)).cell (show Has (scs s) 97 [num32 s.len] from h_lngth OK.out).get)) ?_))
    | ((with_reducible refine at_slot 80 ?_); (refine arm_want (.int .u32 ((s.len + 1 : Nat) : Int)) 80 rfl (by kernel_rfl) (run_op_add32 _ _ _ _ rfl (s.len : Int) 1 _ rfl rfl HAD.out _) ?_))
    | ((with_reducible refine at_slot 82 ?_); (refine arm_want (num32 s.count) 82 rfl (by kernel_rfl) (run_op_load1 _ _ rfl (.int .u32) (by kernel_rfl) rfl ⟨S, 98, none⟩ rfl (num32 s.count) (((rS16.old nv17.below).only ov18 (by have := rS16.lt; have := Ee.out; have := nv17.size; have := sv18.out; omega)).cell (show Has (scs s) 98 [num32 s.count] from h_cnt OK.out).get)) ?_))
    | ((with_reducible refine at_slot 83 ?_); (refine arm_load (o := ⟨some 83, _, _, _, _, _⟩) rfl _ _ rfl V 0 rfl (wcs pm pl pc) ((show Has (wcs pm pl pc) 0 (wcs pm pl pc) from Has.refl _).range (((rV16.old nv17.below).only ov18 (by have := rV16.lt; have := Ee.out; have := nv17.size; have := sv18.out; omega)))) (sz_rwin HCL.out) ?_))
    | ((with_reducible refine at_slot 84 ?_); (refine arm_load (o := ⟨some 84, _, _, _, _, _⟩) rfl _ _ rfl E 0 rfl (Ep.pcs ac an) ((show Has (Ep.pcs ac an) 0 (Ep.pcs ac an) from Has.refl _).range ((hv18.congr (allP KC.out KN.out)))) (sz_rpair KC.out KN.out) ?_))
    | ((with_reducible refine at_slot 85 ?_); (refine arm_build (o := ⟨some 85, _, _, _, _, _⟩) rfl _ _ rfl (scs g) (by simp only [List.map_toArray, List.map_cons, List.map_nil]; exact BG.out) ?_))
    | ((with_reducible refine at_slot 11 ?_); (refine arm_alloc (o := ⟨some 11, _, _, _, _, _⟩) rfl _ rfl (scs zs) z_rsta ?_); intro N v19 Ne hv19 nv19)
    | ((with_reducible refine arm_store (o := ⟨none, _, _, _, _, _⟩) rfl _ _ _ rfl N 0 rfl (scs g) rfl _ _ (hv19) (fitS KG.out) (scs_one _) (sz_rsta KG.out) ?_); intro v20 hv20 ov20 sv20)
    | ((with_reducible refine at_slot 91 ?_); (refine arm_load (o := ⟨some 91, _, _, _, _, _⟩) rfl _ _ rfl N 0 rfl (scs g) ((show Has (scs g) 0 (scs g) from Has.refl _).range ((hv20.congr (allS KG.out)))) (sz_rsta KG.out) ?_))
    | ((with_reducible refine arm_store (o := ⟨none, _, _, _, _, _⟩) rfl _ _ _ rfl R 0 rfl (scs g) rfl _ _ (((((rR16.old nv17.below).only ov18 (by have := rR16.lt; have := Ee.out; have := nv17.size; have := sv18.out; have := Ne.out; have := nv19.size; have := sv20.out; omega)).old nv19.below).only ov20 (by have := rR16.lt; have := Ee.out; have := nv17.size; have := sv18.out; have := Ne.out; have := nv19.size; have := sv20.out; omega))) (fitS KG.out) (scs_one _) (sz_rsta KG.out) ?_); intro v21 hv21 ov21 sv21))
  have q0 := Ee.out
  have q1 := nv17.size
  have q2 := sv18.out
  have q3 := Ne.out
  have q4 := nv19.size
  have q5 := sv20.out
  have q6 := sv21.out
  have q7 := rS16.lt
  have q8 := rB16.lt
  have q9 := rR16.lt
  have q10 := rV16.lt
  have q11 := rP16.lt
  have q12 := bel16.size
  have lE : w.heap.size ≤ E := by omega
  have nSE : S ≠ E := by omega
  have nES : E ≠ S := by omega
  have nBE : B ≠ E := by omega
  have nEB : E ≠ B := by omega
  have nRE : R ≠ E := by omega
  have nER : E ≠ R := by omega
  have nVE : V ≠ E := by omega
  have nEV : E ≠ V := by omega
  have nPE : P ≠ E := by omega
  have nEP : E ≠ P := by omega
  have lN : w.heap.size ≤ N := by omega
  have nSN : S ≠ N := by omega
  have nNS : N ≠ S := by omega
  have nBN : B ≠ N := by omega
  have nNB : N ≠ B := by omega
  have nRN : R ≠ N := by omega
  have nNR : N ≠ R := by omega
  have nVN : V ≠ N := by omega
  have nNV : N ≠ V := by omega
  have nPN : P ≠ N := by omega
  have nNP : N ≠ P := by omega
  have nEN : E ≠ N := by omega
  have nNE : N ≠ E := by omega
  have rS22 : Row v21 S 46 (scs s) := (((((rS16.old nv17.below).only ov18 nSE).old nv19.below).only ov20 nSN).only ov21 nSR)
  have rB22 : Row v21 B 70 (gcs b) := (((((rB16.old nv17.below).only ov18 nBE).old nv19.below).only ov20 nBN).only ov21 nBR)
  have rR22 : Row v21 R 46 (scs g) := (hv21.congr (allS KG.out))
  have rV22 : Row v21 V 41 (wcs pm pl pc) := (((((rV16.old nv17.below).only ov18 nVE).old nv19.below).only ov20 nVN).only ov21 nVR)
  have rP22 : Row v21 P 23 (u8s dg) := (((((rP16.old nv17.below).only ov18 nPE).old nv19.below).only ov20 nPN).only ov21 nPR)
  have rE22 : Row v21 E 44 (Ep.pcs ac an) := ((((hv18.congr (allP KC.out KN.out)).old nv19.below).only ov20 nEN).only ov21 nER)
  have rN22 : Row v21 N 46 (scs g) := ((hv20.congr (allS KG.out)).only ov21 nNR)
  have bel22 : Below w.heap.size w v21 := (below_only (below_only (below_step (below_only (below_step bel16 (by omega) nv17.below) ov18 lE (by omega)) (by omega) nv19.below) ov20 lN (by omega)) ov21 lR (by omega))
  clear q0 q1 q2 q3 q4 q5 q6 q7 q8 q9 q10 q11 q12 rS16 rB16 rR16 rV16 rP16 bel16 Ee hv17 nv17 hv18 ov18 sv18 Ne hv19 nv19 hv20 ov20 sv20 hv21 ov21 sv21
  exact bodyPost_ret (result_row2 (p := 4) (u := 5) (ty := 46) (t := 46) (by kernel_rfl) _ _ R (scs g) (.int .i64 0) rfl rfl rR22 (sz_rsta KG.out)) rfl ⟨rfl, bel22⟩
theorem rchild_any (s : Sta) (b : Gb) (w : World) (ok : s.Ok) (rt : SRt s) (kb : b.Ok) (hk : w.rangeAt 1 0 (u32s ks)) :
    Calls Tryd.prog 20 #[.agg (scs s).toArray, .agg (gcs b).toArray] w fun e w' => e = .returned (.tuple #[.agg (scs (chS s b)).toArray, .int .i64 (chE s b)]) ∧ Below w.heap.size w w' := by
  have hsl := ok.len; have hsc := ok.count
  by_cases h : s.slot < b.slot
  · have e1 : behE s.slot b.slot = 0 := if_neg (by omega)
    by_cases hl : s.len = 4294967295
    · have e : chE s b = 5 := by unfold chE errs; rw [e1, show addE s.len 1 = 5 from if_neg (by omega)]; simp [firstE]
      rw [e, chS_bad (by rw [e]; decide)]
      by_cases ht : s.slot / 24 < b.slot / 24
      · exact rchild_len1 s b w ok rt kb hk h ht hl
      · exact rchild_len2 s b w ok rt kb hk h ht hl
    · have e2 : addE s.len 1 = 0 := if_pos (by omega)
      by_cases hc : s.slot / 24 < b.slot / 24 ∧ s.count = 4294967295
      · have e : chE s b = 5 := by unfold chE errs; rw [e1, e2, show entN s.slot b.slot = 1 from if_pos hc.1, show addE s.count 1 = 5 from if_neg (by omega)]; simp [firstE]
        rw [e, chS_bad (by rw [e]; decide)]
        exact rchild_cnt s b w ok rt kb hk h hc.1 hl hc.2
      · have e3 : addE s.count (entN s.slot b.slot) = 0 := if_pos (by
          unfold entN
          split <;> omega)
        by_cases hp : putE s.last s.counts (b.slot / 3) = 0
        · by_cases hf : ansE s.next (blkOf s b) = 0
          · have e : chE s b = 0 := by unfold chE errs; rw [e1, e2, e3, hp, hf]; simp [firstE]
            rw [e, chS, if_pos e]
            by_cases ht : s.slot / 24 < b.slot / 24
            · exact rchild_fine1 s b w ok rt kb hk (chE_zero.1 e) ht
            · exact rchild_fine2 s b w ok rt kb hk (chE_zero.1 e) ht
          · have e : chE s b = ansE s.next (blkOf s b) := by unfold chE errs; rw [e1, e2, e3, hp]; simp [firstE, hf]
            have ht : ¬ s.slot / 24 < b.slot / 24 := fun ht => hf (by
              unfold ansE
              rw [if_pos (show (blkOf s b).fro < (blkOf s b).to from h), if_neg (fun ho => ho.1 ht)])
            rw [chS_bad (by rw [e]; exact hf), e]
            exact rchild_follow s b w ok rt kb hk h ht hl hp hf
        · have e : chE s b = putE s.last s.counts (b.slot / 3) := by unfold chE errs; rw [e1, e2, e3]; simp [firstE, hp]
          rw [chS_bad (by rw [e]; exact hp), e]
          by_cases ht : s.slot / 24 < b.slot / 24
          · exact rchild_put1 s b w ok rt kb hk h ht hl (fun x => hc ⟨ht, x⟩) hp
          · exact rchild_put2 s b w ok rt kb hk h ht hl hp
  · have e : chE s b = 6 := chE_slot (by omega)
    rw [e, chS_bad (by rw [e]; decide)]
    exact rchild_slot s b w ok rt kb hk (by omega)
end Go.Proofs.YtphbpndjebfacaaDoor.Gr
