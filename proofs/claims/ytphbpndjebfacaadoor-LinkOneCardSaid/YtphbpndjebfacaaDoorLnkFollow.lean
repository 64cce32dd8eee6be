/-
  The contract of package link's Follows. Over this seat's translation.
-/
import Derived.Test.YtphbpndjebfacaaDoorLnkSpec
import Derived.Test.YtphbpndjebfacaaDoorGroChild
namespace Go.Proofs.YtphbpndjebfacaaDoor.Lk
open Go.ChangeShapes Go.WideShapes Go.ChangeAt Go.RowKit Go.Proofs.YtphbpndjebfacaaDoor.Mem Go.Proofs.YtphbpndjebfacaaDoor.Bt Go.Proofs.YtphbpndjebfacaaDoor.Rg Go.Proofs.YtphbpndjebfacaaDoor.Wn Go.Proofs.YtphbpndjebfacaaDoor.Sa Go.Proofs.YtphbpndjebfacaaDoor.Sha Go.Proofs.YtphbpndjebfacaaDoor.Gr Go.Proofs.YtphbpndjebfacaaDoor.Sl
open Go.Proofs.YtphbpndjebfacaaDoor.Ep (H32 Dat Blk zh zh_ok num32 zd zd_ok Has h_len one_app one_num szH zH fitH allH)
set_option linter.unusedVariables false
set_option linter.unusedSimpArgs false

set_option maxHeartbeats 4000000 in
set_option maxRecDepth 100000 in
theorem follows_any (p c : Sta) (w : World) (ok : p.Ok) (rt : SRt p) (kc : c.Ok) (hk : w.rangeAt 0 0 (u32s ks)) :
    Calls Tryd.prog 9 #[.agg (scs p).toArray, .agg (scs c).toArray] w fun e w' => e = .returned (.int .i64 (folE p c)) ∧ Below w.heap.size w w' := by
  have hk1 : 0 < w.heap.size := range_lt hk (by simp [u32s, ks])
  have HKW : Hid (∀ w', Below w.heap.size w w' → w'.rangeAt 0 0 (u32s ks)) := Lib.hid fun w' hb => range_block hk (hb.block _ hk1)
  have OK := Lib.hid ok; have KC := Lib.hid kc
  have BG := Lib.hid (built_gball kc)
  have CC := Lib.hid (fun w0 h => child_any p (gbOf c) w0 ok rt (gbOf_ok kc) h)
  have KN := Lib.hid (chS_ok ok rt (gbOf_ok kc))
  have HB : Hid (chE p (gbOf c) ≠ 0 → folE p c = chE p (gbOf c)) := Lib.hid folE_bad
  have HY : Hid (chE p (gbOf c) = 0 → chS p (gbOf c) = c → folE p c = 0) := Lib.hid folE_yes
  have HN : Hid (chE p (gbOf c) = 0 → chS p (gbOf c) ≠ c → folE p c = 7) := Lib.hid folE_no
  generalize folE p c = q at HB HY HN ⊢
  generalize chS p (gbOf c) = n at CC KN HY HN
  generalize chE p (gbOf c) = z at CC HB HY HN
  clear ok rt kc hk hk1
  go_enter Tryd.func9, Tryd.ntmps9
  go_wp2_with (first
    | ((with_reducible refine at_slot 2 ?_); (refine arm_box (o := ⟨some 2, _, _, _, _, _⟩) rfl _ _ rfl (scs p) rfl ?_); intro P v1 Pe hv1 nv1)
    | ((with_reducible refine at_slot 3 ?_); (refine arm_box (o := ⟨some 3, _, _, _, _, _⟩) rfl _ _ rfl (scs c) rfl ?_); intro C v2 Ce hv2 nv2)
    | ((with_reducible refine at_slot 8 ?_); (refine arm_load (o := ⟨some 8, _, _, _, _, _⟩) rfl _ _ rfl P 0 rfl (scs p) ((show Has (scs p) 0 (scs p) from Has.refl _).range ((hv1.old nv2.below))) (sz_sta OK.out) ?_))
    | ((with_reducible refine at_slot 10 ?_); (refine arm_want (num32 c.slot) 10 rfl (by kernel_rfl) (run_op_load1 _ _ rfl (.int .u32) (by kernel_rfl) rfl ⟨C, 96, none⟩ rfl (num32 c.slot) (hv2.cell (sc_slot KC.out))) ?_))
    | ((with_reducible refine at_slot 12 ?_); (refine arm_load (o := ⟨some 12, _, _, _, _, _⟩) rfl _ _ rfl C 32 rfl (u8s c.led) ((show Has (scs c) 32 (u8s c.led) from h_ledg KC.out).range (hv2)) (szH KC.out.led) ?_))
    | ((with_reducible refine at_slot 14 ?_); (refine arm_load (o := ⟨some 14, _, _, _, _, _⟩) rfl _ _ rfl C 64 rfl (u8s c.draw) ((show Has (scs c) 64 (u8s c.draw) from h_drw KC.out).range (hv2)) (szH KC.out.draw) ?_))
    | ((with_reducible refine at_slot 15 ?_); (refine arm_build (o := ⟨some 15, _, _, _, _, _⟩) rfl _ _ rfl (gcs (gbOf c)) (by simp only [List.map_toArray, List.map_cons, List.map_nil]; exact BG.out) ?_)))
  have q0 := Pe.out
  have q1 := nv1.size
  have q2 := Ce.out
  have q3 := nv2.size
  have lP : w.heap.size ≤ P := by omega
  have lC : w.heap.size ≤ C := by omega
  have nPC : P ≠ C := by omega
  have nCP : C ≠ P := by omega
  have rP3 : Row v2 P 35 (scs p) := (hv1.old nv2.below)
  have rC3 : Row v2 C 35 (scs c) := hv2
  have bel3 : Below w.heap.size w v2 := (below_step (below_step (Below.refl _ _) (by omega) nv1.below) (by omega) nv2.below)
  clear q0 q1 q2 q3 Pe hv1 nv1 Ce hv2 nv2
  refine (CC.out _ (HKW.out _ bel3)).mono ?_
  rintro e y4 ⟨rfl, hB⟩
  have rP4 : Row y4 P 35 (scs p) := rP3.old hB
  have rC4 : Row y4 C 35 (scs c) := rC3.old hB
  have bel4 : Below w.heap.size w y4 := below_step bel3 bel3.size hB
  clear hB rP3 rC3 bel3
  clear rP4
  by_cases hz : z = 0
  · obtain rfl := hz
    by_cases he : n = c
    · have HQ := Lib.hid (HY.out rfl he)
      have EQ : Hid (scs n = scs c ↔ True) := Lib.hid (iff_true_intro (congrArg scs he))
      clear HB HY HN he
      go_wp2_with (first
        | ((with_reducible refine at_slot 5 ?_); (refine arm_alloc (o := ⟨some 5, _, _, _, _, _⟩) rfl _ rfl (scs zs) z_sta ?_); intro N v5 Ne hv5 nv5)
        | ((with_reducible refine arm_store (o := ⟨none, _, _, _, _, _⟩) rfl _ _ _ rfl N 0 rfl (scs n) rfl _ _ (hv5) (fitS KN.out) (scs_one _) (sz_sta KN.out) ?_); intro v6 hv6 ov6 sv6)
        | ((with_reducible refine at_slot 22 ?_); (refine arm_load (o := ⟨some 22, _, _, _, _, _⟩) rfl _ _ rfl N 0 rfl (scs n) ((show Has (scs n) 0 (scs n) from Has.refl _).range ((hv6.congr (allS KN.out)))) (sz_sta KN.out) ?_))
        | ((with_reducible refine at_slot 23 ?_); (refine arm_load (o := ⟨some 23, _, _, _, _, _⟩) rfl _ _ rfl C 0 rfl (scs c) ((show Has (scs c) 0 (scs c) from Has.refl _).range (((rC4.old nv5.below).only ov6 (by have := rC4.lt; have := Ne.out; have := nv5.size; have := sv6.out; omega)))) (sz_sta KC.out) ?_))
        | ((with_reducible refine at_slot 24 ?_); (refine arm_want (.bool false) 24 rfl (by kernel_rfl) (run_op_neqS KN.out KC.out _ _ _ rfl rfl rfl true (iff_of_true rfl (EQ.out.2 trivial)) _) ?_)))
      have q0 := Ne.out
      have q1 := nv5.size
      have q2 := sv6.out
      have q3 := rC4.lt
      have q4 := bel4.size
      have lN : w.heap.size ≤ N := by omega
      have nCN : C ≠ N := by omega
      have nNC : N ≠ C := by omega
      have rC7 : Row v6 C 35 (scs c) := ((rC4.old nv5.below).only ov6 nCN)
      have rN7 : Row v6 N 35 (scs n) := (hv6.congr (allS KN.out))
      have bel7 : Below w.heap.size w v6 := (below_only (below_step bel4 (by omega) nv5.below) ov6 lN (by omega))
      clear q0 q1 q2 q3 q4 rC4 bel4 Ne hv5 nv5 hv6 ov6 sv6
      rw [HQ.out]
      go_ret
      exact ⟨rfl, bel7⟩
    · have HQ := Lib.hid (HN.out rfl he)
      have EQ : Hid (scs n = scs c ↔ False) := Lib.hid (iff_false_intro (fun e => he (cells_inj KN.out KC.out e)))
      clear HB HY HN he
      go_wp2_with (first
        | ((with_reducible refine at_slot 5 ?_); (refine arm_alloc (o := ⟨some 5, _, _, _, _, _⟩) rfl _ rfl (scs zs) z_sta ?_); intro N v5 Ne hv5 nv5)
        | ((with_reducible refine arm_store (o := ⟨none, _, _, _, _, _⟩) rfl _ _ _ rfl N 0 rfl (scs n) rfl _ _ (hv5) (fitS KN.out) (scs_one _) (sz_sta KN.out) ?_); intro v6 hv6 ov6 sv6)
        | ((with_reducible refine at_slot 22 ?_); (refine arm_load (o := ⟨some 22, _, _, _, _, _⟩) rfl _ _ rfl N 0 rfl (scs n) ((show Has (scs n) 0 (scs n) from Has.refl _).range ((hv6.congr (allS KN.out)))) (sz_sta KN.out) ?_))
        | ((with_reducible refine at_slot 23 ?_); (refine arm_load (o := ⟨some 23, _, _, _, _, _⟩) rfl _ _ rfl C 0 rfl (scs c) ((show Has (scs c) 0 (scs c) from Has.refl _).range (((rC4.old nv5.below).only ov6 (by have := rC4.lt; have := Ne.out; have := nv5.size; have := sv6.out; omega)))) (sz_sta KC.out) ?_))
        | ((with_reducible refine at_slot 24 ?_); (refine arm_want (.bool true) 24 rfl (by kernel_rfl) (run_op_neqS KN.out KC.out _ _ _ rfl rfl rfl false (iff_of_false (by decide) EQ.out.1) _) ?_)))
      have q0 := Ne.out
      have q1 := nv5.size
      have q2 := sv6.out
      have q3 := rC4.lt
      have q4 := bel4.size
      have lN : w.heap.size ≤ N := by omega
      have nCN : C ≠ N := by omega
      have nNC : N ≠ C := by omega
      have rC7 : Row v6 C 35 (scs c) := ((rC4.old nv5.below).only ov6 nCN)
      have rN7 : Row v6 N 35 (scs n) := (hv6.congr (allS KN.out))
      have bel7 : Below w.heap.size w v6 := (below_only (below_step bel4 (by omega) nv5.below) ov6 lN (by omega))
      clear q0 q1 q2 q3 q4 rC4 bel4 Ne hv5 nv5 hv6 ov6 sv6
      rw [HQ.out]
      go_ret
      exact ⟨rfl, bel7⟩
  · have hz1 : (z == 0) = false := beq_eq_false_iff_ne.2 hz
    have hz2 : (z != 0) = true := bne_iff_ne.2 hz
    have HQ := Lib.hid (HB.out hz)
    clear HB HY HN hz
    go_wp2_with (first
      | ((with_reducible refine at_slot 5 ?_); (refine arm_alloc (o := ⟨some 5, _, _, _, _, _⟩) rfl _ rfl (scs zs) z_sta ?_); intro N v5 Ne hv5 nv5)
      | ((with_reducible refine arm_store (o := ⟨none, _, _, _, _, _⟩) rfl _ _ _ rfl N 0 rfl (scs n) rfl _ _ (hv5) (fitS KN.out) (scs_one _) (sz_sta KN.out) ?_); intro v6 hv6 ov6 sv6))
    have q0 := Ne.out
    have q1 := nv5.size
    have q2 := sv6.out
    have q3 := rC4.lt
    have q4 := bel4.size
    have lN : w.heap.size ≤ N := by omega
    have nCN : C ≠ N := by omega
    have nNC : N ≠ C := by omega
    have rC7 : Row v6 C 35 (scs c) := ((rC4.old nv5.below).only ov6 nCN)
    have rN7 : Row v6 N 35 (scs n) := (hv6.congr (allS KN.out))
    have bel7 : Below w.heap.size w v6 := (below_only (below_step bel4 (by omega) nv5.below) ov6 lN (by omega))
    clear q0 q1 q2 q3 q4 rC4 bel4 Ne hv5 nv5 hv6 ov6 sv6
    rw [HQ.out]
    go_ret
    exact ⟨rfl, bel7⟩
end Go.Proofs.YtphbpndjebfacaaDoor.Lk
