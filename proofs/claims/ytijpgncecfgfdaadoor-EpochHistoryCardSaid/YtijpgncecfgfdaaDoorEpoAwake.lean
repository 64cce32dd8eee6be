/-
  The contract of layer 8's awake: the calls whose answers the document fixes answer so: it returns true. Over this seat's translation.
-/
import Derived.Test.YtijpgncecfgfdaaDoorEpoRef
namespace Go.Proofs.YtijpgncecfgfdaaDoor.Ep
open Go.ChangeShapes Go.WideShapes Go.ChangeAt Go.RowKit Go.Proofs.YtijpgncecfgfdaaDoor.Mem Go.Proofs.YtijpgncecfgfdaaDoor.Bt Go.Proofs.YtijpgncecfgfdaaDoor.Sha Go.Proofs.YtijpgncecfgfdaaDoor.Tg
set_option linter.unusedVariables false
set_option linter.unusedSimpArgs false

/-- A digest of one byte, and zeros. -/
def hn (n : Nat) : List Nat := n :: List.replicate 31 0
theorem hn_ok {n : Nat} (h : n < 256) : H32 (hn n) := ⟨by unfold hn; simp, fun x hx => by
  unfold hn at hx
  rcases List.mem_cons.1 hx with rfl | hx
  · exact h
  · have := List.eq_of_mem_replicate hx; omega⟩
theorem b_hash0 : Tryd.prog.built 23 [] = some (u8s zh).toArray := by kernel_rfl
theorem awk_ans (l p x : List Nat) : ansC ⟨l, zh, zh, zh, 1⟩ ⟨l, zh, zh, zh, 1⟩ ⟨0, 25, p, l, x⟩ = ⟨l, zh, zh, zh, 1⟩ ∧ ansN ⟨l, zh, zh, zh, 1⟩ ⟨0, 25, p, l, x⟩ = ⟨l, seedN zh x, p, p, 1⟩ ∧ ansE ⟨l, zh, zh, zh, 1⟩ ⟨0, 25, p, l, x⟩ = 0 := by
  have ht : (Blk.mk 0 25 p l x).fro / 24 < (Blk.mk 0 25 p l x).to / 24 := show 0 / 24 < 25 / 24 by decide
  have hl : (Blk.mk 0 25 p l x).to % 24 < 16 := show 25 % 24 < 16 by decide
  obtain ⟨e1, e2, e3⟩ := ans_ok (c := ⟨l, zh, zh, zh, 1⟩) (d := ⟨l, zh, zh, zh, 1⟩) (b := ⟨0, 25, p, l, x⟩) (show 0 < 25 by decide) (fun h => h.1 ht)
  obtain ⟨f1, f2⟩ := made_yes (c := ⟨l, zh, zh, zh, 1⟩) (d := ⟨l, zh, zh, zh, 1⟩) ht
  rw [e1, e2, e3, f2]
  unfold nextF
  rw [f1, lockd_yes hl]
  exact ⟨rfl, rfl, rfl⟩
theorem awk_slot (d : Dat) : ansC d d ⟨5, 5, zh, zh, zh⟩ = zd ∧ ansN d ⟨5, 5, zh, zh, zh⟩ = zd ∧ ansE d ⟨5, 5, zh, zh, zh⟩ = 6 := ans_slot (by decide)
set_option maxHeartbeats 4000000 in
set_option maxRecDepth 100000 in
theorem awake_any (w : World) (hk : w.rangeAt 1 0 (u32s ks)) (hk2 : w.rangeAt 0 0 (u32s ks)) :
    Calls Tryd.prog 7 #[] w fun e w' => e = .returned (.bool true) ∧ Below w.heap.size w w' := by
  have hk1 : 1 < w.heap.size := range_lt hk (by simp [u32s, ks])
  have hk3 : 0 < w.heap.size := range_lt hk2 (by simp [u32s, ks])
  have HKW : Hid (∀ w', Below w.heap.size w w' → w'.rangeAt 1 0 (u32s ks)) := Lib.hid fun w' hb => range_block hk (hb.block _ hk1)
  have HKR : Hid (∀ w', Below w.heap.size w w' → w'.rangeAt 0 0 (u32s ks)) := Lib.hid fun w' hb => range_block hk2 (hb.block _ hk3)
  clear hk hk2
  obtain ⟨l, hl⟩ : ∃ l, l = hn 1 := ⟨_, rfl⟩
  obtain ⟨p, hp⟩ : ∃ p, p = hn 2 := ⟨_, rfl⟩
  obtain ⟨x, hx⟩ : ∃ x, x = hn 3 := ⟨_, rfl⟩
  have BL := Lib.hid (show Tryd.prog.built 23 [(0, .int .u8 1)] = some (u8s l).toArray by rw [hl]; kernel_rfl)
  have BP := Lib.hid (show Tryd.prog.built 23 [(0, .int .u8 2)] = some (u8s p).toArray by rw [hp]; kernel_rfl)
  have BX := Lib.hid (show Tryd.prog.built 23 [(0, .int .u8 3)] = some (u8s x).toArray by rw [hx]; kernel_rfl)
  have KL := Lib.hid (show H32 l by rw [hl]; exact hn_ok (by decide))
  have KP := Lib.hid (show H32 p by rw [hp]; exact hn_ok (by decide))
  have KX := Lib.hid (show H32 x by rw [hx]; exact hn_ok (by decide))
  clear hl hp hx
  obtain ⟨g, hg⟩ : ∃ g : Dat, g = ⟨l, zh, zh, zh, 1⟩ := ⟨_, rfl⟩
  have KG := Lib.hid (show g.Ok by rw [hg]; exact ⟨KL.out, zh_ok, zh_ok, zh_ok, (by decide : 1 < 4294967296)⟩)
  have GL := Lib.hid (show g.led = l by rw [hg])
  have GN := Lib.hid (show g.len = 1 by rw [hg])
  obtain ⟨b, hb⟩ : ∃ b : Blk, b = ⟨0, 25, p, l, x⟩ := ⟨_, rfl⟩
  have J := Lib.hid (show b.Ok by rw [hb]; exact ⟨(by decide : 0 < 4294967296), (by decide : 25 < 4294967296), KP.out, KL.out, KX.out⟩)
  have BB := Lib.hid (show Tryd.prog.built 30 [(0, .int .u32 0), (1, .int .u32 25), (2, .agg (u8s p).toArray), (3, .agg (u8s l).toArray), (4, .agg (u8s x).toArray)] = some (bcs b).toArray by have h := built_blk J.out; subst hb; exact h)
  have AN := Lib.hid (awk_ans l p x)
  rw [← hg, ← hb] at AN
  obtain ⟨sd, hsd⟩ : ∃ sd, sd = seedN zh x := ⟨_, rfl⟩
  have KS := Lib.hid (show H32 sd by rw [hsd]; exact seed_ok _ _)
  have HSD := Lib.hid hsd
  rw [← hsd] at AN
  obtain ⟨n, hn'⟩ : ∃ n : Dat, n = ⟨l, sd, p, p, 1⟩ := ⟨_, rfl⟩
  rw [← hn'] at AN
  have KN := Lib.hid (show n.Ok by rw [hn']; exact ⟨KL.out, KS.out, KP.out, KP.out, (by decide : 1 < 4294967296)⟩)
  have NS := Lib.hid (show n.seed = sd by rw [hn'])
  have NA := Lib.hid (show n.start = p by rw [hn'])
  have NK := Lib.hid (show n.lock = p by rw [hn'])
  have NN := Lib.hid (show n.len = 1 by rw [hn'])
  have CG : Hid (∀ w0, Calls Tryd.prog 11 #[.agg (u8s l).toArray] w0 fun e w' => e = .returned (.agg (pcs g g).toArray) ∧ Below w0.heap.size w0 w') := Lib.hid fun w0 => by subst hg; exact first_any l w0 KL.out
  obtain ⟨bz, hbz⟩ : ∃ bz : Blk, bz = ⟨5, 5, zh, zh, zh⟩ := ⟨_, rfl⟩
  have JZ := Lib.hid (show bz.Ok by rw [hbz]; exact ⟨(by decide : 5 < 4294967296), (by decide : 5 < 4294967296), zh_ok, zh_ok, zh_ok⟩)
  have BZ := Lib.hid (show Tryd.prog.built 30 [(0, .int .u32 5), (1, .int .u32 5)] = some (bcs bz).toArray by rw [hbz]; kernel_rfl)
  have AZ := Lib.hid (awk_slot g)
  rw [← hbz] at AZ
  clear hg hb hsd hn' hbz
  go_enter Tryd.func7, Tryd.ntmps7
  go_wp2_with (first
    | ((with_reducible refine at_slot 8 ?_); (refine arm_build (o := ⟨some 8, _, _, _, _, _⟩) rfl _ _ rfl (u8s l) (by simp only [List.map_toArray, List.map_cons, List.map_nil]; exact BL.out) ?_))
    | ((with_reducible refine at_slot 9 ?_); (refine arm_build (o := ⟨some 9, _, _, _, _, _⟩) rfl _ _ rfl (u8s p) (by simp only [List.map_toArray, List.map_cons, List.map_nil]; exact BP.out) ?_))
    | ((with_reducible refine at_slot 1 ?_); (refine arm_alloc (o := ⟨some 1, _, _, _, _, _⟩) rfl _ rfl (u8s zh) zH ?_); intro A w1 Ae hw1 nw1)
    | ((with_reducible refine at_slot 2 ?_); (refine arm_alloc (o := ⟨some 2, _, _, _, _, _⟩) rfl _ rfl (u8s zh) zH ?_); intro C w2 Ce hw2 nw2)
    | ((with_reducible refine arm_store (o := ⟨none, _, _, _, _, _⟩) rfl _ _ _ rfl A 0 rfl (u8s l) rfl _ _ (hw1.old nw2.below) (fitH KL.out) (u8s_one _) (szH KL.out) ?_); intro w3 hw3 ow3 sw3)
    | ((with_reducible refine arm_store (o := ⟨none, _, _, _, _, _⟩) rfl _ _ _ rfl C 0 rfl (u8s p) rfl _ _ (hw2.only ow3 (by have := Ae.out; have := Ce.out; have := nw1.size; omega)) (fitH KP.out) (u8s_one _) (szH KP.out) ?_); intro w4 hw4 ow4 sw4)
    | ((with_reducible refine at_slot 10 ?_); (refine arm_load (o := ⟨some 10, _, _, _, _, _⟩) rfl _ _ rfl A 0 rfl (u8s l) ((Has.refl _).range ((hw3.congr (allH KL.out)).only ow4 (by have := Ae.out; have := Ce.out; have := nw1.size; omega))) (szH KL.out) ?_)))
  have e1 := Ae.out; have e2 := Ce.out; have s1 := nw1.size; have s2 := nw2.size; have s3 := sw3.out; have s4 := sw4.out
  have rA := (hw3.congr (allH KL.out)).only ow4 (show A ≠ C by omega)
  have rC := hw4.congr (allH KP.out)
  have bel : Below w.heap.size w w4 := below_only (below_only (below_step nw1.below (by omega) nw2.below) ow3 (by omega) (by omega)) ow4 (by omega) (by omega)
  clear e1 e2 s1 s2 s3 s4 Ae Ce hw1 nw1 hw2 nw2 hw3 ow3 sw3 hw4 ow4 sw4
  refine (CG.out _).mono ?_
  rintro e w5 ⟨rfl, hB⟩
  have rA5 := rA.old hB; have rC5 := rC.old hB
  have bel5 : Below w.heap.size w w5 := below_step bel bel.size hB
  clear hB rA rC bel
  go_wp2_with (first
    | ((with_reducible refine at_slot 3 ?_); (refine arm_alloc (o := ⟨some 3, _, _, _, _, _⟩) rfl _ rfl (pcs zd zd) z_pair ?_); intro G w6 Ge hw6 nw6)
    | ((with_reducible refine arm_store (o := ⟨none, _, _, _, _, _⟩) rfl _ _ _ rfl G 0 rfl (pcs g g) rfl _ _ (hw6) (fitP KG.out KG.out) (pcs_one _ _) (sz_pair KG.out KG.out) ?_); intro w7 hw7 ow7 sw7)
    | ((with_reducible refine at_slot 13 ?_); (refine arm_load (o := ⟨some 13, _, _, _, _, _⟩) rfl _ _ rfl G 0 rfl (pcs g g) ((Has.refl _).range (hw7.congr (allP KG.out KG.out))) (sz_pair KG.out KG.out) ?_))
    | ((with_reducible refine at_slot 14 ?_); (refine arm_load (o := ⟨some 14, _, _, _, _, _⟩) rfl _ _ rfl C 0 rfl (u8s p) ((Has.refl _).range ((rC5.old nw6.below).only ow7 (by have := rC5.lt; have := Ge.out; omega))) (szH KP.out) ?_))
    | ((with_reducible refine at_slot 15 ?_); (refine arm_load (o := ⟨some 15, _, _, _, _, _⟩) rfl _ _ rfl A 0 rfl (u8s l) ((Has.refl _).range ((rA5.old nw6.below).only ow7 (by have := rA5.lt; have := Ge.out; omega))) (szH KL.out) ?_))
    | ((with_reducible refine at_slot 16 ?_); (refine arm_build (o := ⟨some 16, _, _, _, _, _⟩) rfl _ _ rfl (u8s x) (by simp only [List.map_toArray, List.map_cons, List.map_nil]; exact BX.out) ?_))
    | ((with_reducible refine at_slot 17 ?_); (refine arm_build (o := ⟨some 17, _, _, _, _, _⟩) rfl _ _ rfl (bcs b) (by simp only [List.map_toArray, List.map_cons, List.map_nil]; exact BB.out) ?_)))
  have e1 := Ge.out; have s1 := nw6.size; have s2 := sw7.out; have s3 := rA5.lt; have s4 := rC5.lt; have s5 := bel5.size
  have rA7 := (rA5.old nw6.below).only ow7 (show A ≠ G by omega)
  have rC7 := (rC5.old nw6.below).only ow7 (show C ≠ G by omega)
  have rG7 := hw7.congr (allP KG.out KG.out)
  have bel7 : Below w.heap.size w w7 := below_only (below_step bel5 bel5.size nw6.below) ow7 (by omega) (by omega)
  clear e1 s1 s2 s3 s4 s5 Ge hw6 nw6 hw7 ow7 sw7 rA5 rC5 bel5
  refine (follow_any g g b _ KG.out KG.out J.out (HKW.out _ bel7)).mono ?_
  rw [AN.out.1, AN.out.2.1, AN.out.2.2]
  rintro e w8 ⟨rfl, hB⟩
  have rA8 := rA7.old hB; have rC8 := rC7.old hB; have rG8 := rG7.old hB
  have bel8 : Below w.heap.size w w8 := below_step bel7 bel7.size hB
  clear hB rA7 rC7 rG7 bel7 AN BB
  go_wp2_with (first
    | ((with_reducible refine at_slot 4 ?_); (refine arm_alloc (o := ⟨some 4, _, _, _, _, _⟩) rfl _ rfl (pcs zd zd) z_pair ?_); intro F w9 Fe hw9 nw9)
    | ((with_reducible refine arm_store (o := ⟨none, _, _, _, _, _⟩) rfl _ _ _ rfl F 0 rfl (pcs g n) rfl _ _ (hw9) (fitP KG.out KN.out) (pcs_one _ _) (sz_pair KG.out KN.out) ?_); intro w10 hw10 ow10 sw10)
    | ((with_reducible refine at_slot 22 ?_); (refine arm_load (o := ⟨some 22, _, _, _, _, _⟩) rfl _ _ rfl G 0 rfl (pcs g g) ((Has.refl _).range ((rG8.old nw9.below).only ow10 (by have := rG8.lt; have := Fe.out; omega))) (sz_pair KG.out KG.out) ?_))
    | ((with_reducible refine at_slot 23 ?_); (refine arm_build (o := ⟨some 23, _, _, _, _, _⟩) rfl _ _ rfl (bcs bz) (by simp only [List.map_toArray, List.map_cons, List.map_nil]; exact BZ.out) ?_)))
  have e1 := Fe.out; have s1 := nw9.size; have s2 := sw10.out; have s3 := rA8.lt; have s4 := rC8.lt; have s5 := bel8.size; have s6 := rG8.lt
  have rA10 := (rA8.old nw9.below).only ow10 (show A ≠ F by omega)
  have rC10 := (rC8.old nw9.below).only ow10 (show C ≠ F by omega)
  have rG10 := (rG8.old nw9.below).only ow10 (show G ≠ F by omega)
  have rF10 := hw10.congr (allP KG.out KN.out)
  have bel10 : Below w.heap.size w w10 := below_only (below_step bel8 bel8.size nw9.below) ow10 (by omega) (by omega)
  clear e1 s1 s2 s3 s4 s5 s6 Fe hw9 nw9 hw10 ow10 sw10 rA8 rC8 rG8 bel8
  refine (follow_any g g bz _ KG.out KG.out JZ.out (HKW.out _ bel10)).mono ?_
  rw [AZ.out.1, AZ.out.2.1, AZ.out.2.2]
  rintro e w11 ⟨rfl, hB⟩
  have rA11 := rA10.old hB; have rC11 := rC10.old hB; have rG11 := rG10.old hB; have rF11 := rF10.old hB
  have bel11 : Below w.heap.size w w11 := below_step bel10 bel10.size hB
  clear hB rA10 rC10 rG10 rF10 bel10 AZ BZ
  go_wp2_with (first
    | ((with_reducible refine at_slot 6 ?_); (refine arm_alloc (o := ⟨some 6, _, _, _, _, _⟩) rfl _ rfl (pcs zd zd) z_pair ?_); intro Z w12 Ze hw12 nw12)
    | ((with_reducible refine arm_store (o := ⟨none, _, _, _, _, _⟩) rfl _ _ _ rfl Z 0 rfl (pcs zd zd) rfl _ _ (hw12) (fitP zd_ok zd_ok) (pcs_one _ _) (sz_pair zd_ok zd_ok) ?_); intro w13 hw13 ow13 sw13))
  have e1 := Ze.out; have s1 := nw12.size; have s2 := sw13.out; have s3 := rA11.lt; have s4 := rC11.lt; have s5 := bel11.size; have s6 := rG11.lt; have s7 := rF11.lt
  have rA := (rA11.old nw12.below).only ow13 (show A ≠ Z by omega)
  have rC := (rC11.old nw12.below).only ow13 (show C ≠ Z by omega)
  have rG := (rG11.old nw12.below).only ow13 (show G ≠ Z by omega)
  have rF := (rF11.old nw12.below).only ow13 (show F ≠ Z by omega)
  have bel : Below w.heap.size w w13 := below_only (below_step bel11 bel11.size nw12.below) ow13 (by omega) (by omega)
  clear e1 s1 s2 s3 s4 s5 s6 s7 Ze hw12 nw12 hw13 ow13 sw13 rA11 rC11 rG11 rF11 bel11
  refine wp_region_quiet (C := fun w' => Below w13.heap.size w13 w') (by kernel_rfl) (by kernel_rfl) ((Below.refl _ _).drew) ?_
  rw [List.toList_toArray]
  refine q_value 27 rfl (.pointer (some ⟨G, 0, none⟩)) (by kernel_rfl) (fun w' _ => by kernel_rfl) ?_
  simp only [Act.put, List.setIfInBounds_toArray, List.set_cons_zero, List.set_cons_succ]
  refine q_value 28 rfl (.pointer (some ⟨G, 0, none⟩)) (by kernel_rfl) (fun w' _ => by kernel_rfl) ?_
  simp only [Act.put, List.setIfInBounds_toArray, List.set_cons_zero, List.set_cons_succ]
  refine q_value 29 rfl (.agg (u8s l).toArray) (by kernel_rfl) (fun w' hC => run_op_load _ _ rfl G 0 rfl (u8s l) ((show Has _ 0 (u8s l) from GL.out ▸ d_led (p_now (Has.refl (pcs g g)))).range (rG.old hC)) (szH KL.out)) ?_
  simp only [Act.put, List.setIfInBounds_toArray, List.set_cons_zero, List.set_cons_succ]
  refine q_value 30 rfl (.agg (u8s l).toArray) (by kernel_rfl) (fun w' hC => run_op_load _ _ rfl A 0 rfl (u8s l) ((show Has _ 0 (u8s l) from Has.refl _).range (rA.old hC)) (szH KL.out)) ?_
  simp only [Act.put, List.setIfInBounds_toArray, List.set_cons_zero, List.set_cons_succ]
  refine q_value 31 rfl (.bool true) (by kernel_rfl) (fun w' _ => run_op_eql _ _ _ rfl l KL.out.len rfl rfl w') ?_
  simp only [Act.put, List.setIfInBounds_toArray, List.set_cons_zero, List.set_cons_succ]
  refine q_value 32 rfl (.bool true) (by kernel_rfl) (fun w' _ => by kernel_rfl) ?_
  simp only [Act.put, List.setIfInBounds_toArray, List.set_cons_zero, List.set_cons_succ]
  refine q_value 33 rfl (.pointer (some ⟨G, 0, none⟩)) (by kernel_rfl) (fun w' _ => by kernel_rfl) ?_
  simp only [Act.put, List.setIfInBounds_toArray, List.set_cons_zero, List.set_cons_succ]
  refine q_value 34 rfl (.pointer (some ⟨G, 128, none⟩)) (by kernel_rfl) (fun w' _ => by kernel_rfl) ?_
  simp only [Act.put, List.setIfInBounds_toArray, List.set_cons_zero, List.set_cons_succ]
  refine q_value 35 rfl (.int .u32 1) (by kernel_rfl) (fun w' hC => run_op_load1 _ _ rfl (.int .u32) (by kernel_rfl) rfl ⟨G, 128, none⟩ rfl (.int .u32 1) (by have h := (rG.old hC).cell (show Has _ 128 _ from d_len KG.out (p_now (Has.refl (pcs g g)))).get; rw [GN.out] at h; exact h)) ?_
  simp only [Act.put, List.setIfInBounds_toArray, List.set_cons_zero, List.set_cons_succ]
  refine q_value 36 rfl (.bool true) (by kernel_rfl) (fun w' _ => by kernel_rfl) ?_
  simp only [Act.put, List.setIfInBounds_toArray, List.set_cons_zero, List.set_cons_succ]
  refine q_value 37 rfl (.bool true) (by kernel_rfl) (fun w' _ => by kernel_rfl) ?_
  simp only [Act.put, List.setIfInBounds_toArray, List.set_cons_zero, List.set_cons_succ]
  refine q_value 38 rfl (.bool true) (by kernel_rfl) (fun w' _ => by kernel_rfl) ?_
  simp only [Act.put, List.setIfInBounds_toArray, List.set_cons_zero, List.set_cons_succ]
  refine q_value 39 rfl (.pointer (some ⟨G, 129, none⟩)) (by kernel_rfl) (fun w' _ => by kernel_rfl) ?_
  simp only [Act.put, List.setIfInBounds_toArray, List.set_cons_zero, List.set_cons_succ]
  refine q_value 40 rfl (.agg (dcs g).toArray) (by kernel_rfl) (fun w' hC => run_op_load _ _ rfl G 129 rfl (dcs g) ((show Has _ 129 (dcs g) from p_next KG.out (Has.refl (pcs g g))).range (rG.old hC)) (sz_dat KG.out)) ?_
  simp only [Act.put, List.setIfInBounds_toArray, List.set_cons_zero, List.set_cons_succ]
  refine q_value 41 rfl (.pointer (some ⟨G, 0, none⟩)) (by kernel_rfl) (fun w' _ => by kernel_rfl) ?_
  simp only [Act.put, List.setIfInBounds_toArray, List.set_cons_zero, List.set_cons_succ]
  refine q_value 42 rfl (.agg (dcs g).toArray) (by kernel_rfl) (fun w' hC => run_op_load _ _ rfl G 0 rfl (dcs g) ((show Has _ 0 (dcs g) from p_now (Has.refl (pcs g g))).range (rG.old hC)) (sz_dat KG.out)) ?_
  simp only [Act.put, List.setIfInBounds_toArray, List.set_cons_zero, List.set_cons_succ]
  refine q_value 43 rfl (.bool true) (by kernel_rfl) (fun w' _ => run_op_eqlDat g KG.out _ _ _ rfl rfl rfl w') ?_
  simp only [Act.put, List.setIfInBounds_toArray, List.set_cons_zero, List.set_cons_succ]
  refine q_value 44 rfl (.bool true) (by kernel_rfl) (fun w' _ => by kernel_rfl) ?_
  simp only [Act.put, List.setIfInBounds_toArray, List.set_cons_zero, List.set_cons_succ]
  refine q_value 45 rfl (.bool true) (by kernel_rfl) (fun w' _ => by kernel_rfl) ?_
  simp only [Act.put, List.setIfInBounds_toArray, List.set_cons_zero, List.set_cons_succ]
  refine q_value 46 rfl (.int .i64 0) (by kernel_rfl) (fun w' _ => by kernel_rfl) ?_
  simp only [Act.put, List.setIfInBounds_toArray, List.set_cons_zero, List.set_cons_succ]
  refine q_value 47 rfl (.bool true) (by kernel_rfl) (fun w' _ => by kernel_rfl) ?_
  simp only [Act.put, List.setIfInBounds_toArray, List.set_cons_zero, List.set_cons_succ]
  refine q_value 48 rfl (.bool true) (by kernel_rfl) (fun w' _ => by kernel_rfl) ?_
  simp only [Act.put, List.setIfInBounds_toArray, List.set_cons_zero, List.set_cons_succ]
  refine q_value 49 rfl (.bool true) (by kernel_rfl) (fun w' _ => by kernel_rfl) ?_
  simp only [Act.put, List.setIfInBounds_toArray, List.set_cons_zero, List.set_cons_succ]
  refine q_value 50 rfl (.pointer (some ⟨F, 129, none⟩)) (by kernel_rfl) (fun w' _ => by kernel_rfl) ?_
  simp only [Act.put, List.setIfInBounds_toArray, List.set_cons_zero, List.set_cons_succ]
  refine q_value 51 rfl (.pointer (some ⟨F, 193, none⟩)) (by kernel_rfl) (fun w' _ => by kernel_rfl) ?_
  simp only [Act.put, List.setIfInBounds_toArray, List.set_cons_zero, List.set_cons_succ]
  refine q_value 52 rfl (.agg (u8s p).toArray) (by kernel_rfl) (fun w' hC => run_op_load _ _ rfl F 193 rfl (u8s p) ((show Has _ 193 (u8s p) from NA.out ▸ d_start KN.out (p_next KG.out (Has.refl (pcs g n)))).range (rF.old hC)) (szH KP.out)) ?_
  simp only [Act.put, List.setIfInBounds_toArray, List.set_cons_zero, List.set_cons_succ]
  refine q_value 53 rfl (.agg (u8s p).toArray) (by kernel_rfl) (fun w' hC => run_op_load _ _ rfl C 0 rfl (u8s p) ((show Has _ 0 (u8s p) from Has.refl _).range (rC.old hC)) (szH KP.out)) ?_
  simp only [Act.put, List.setIfInBounds_toArray, List.set_cons_zero, List.set_cons_succ]
  refine q_value 54 rfl (.bool true) (by kernel_rfl) (fun w' _ => run_op_eql _ _ _ rfl p KP.out.len rfl rfl w') ?_
  simp only [Act.put, List.setIfInBounds_toArray, List.set_cons_zero, List.set_cons_succ]
  refine q_value 55 rfl (.bool true) (by kernel_rfl) (fun w' _ => by kernel_rfl) ?_
  simp only [Act.put, List.setIfInBounds_toArray, List.set_cons_zero, List.set_cons_succ]
  refine q_value 56 rfl (.bool true) (by kernel_rfl) (fun w' _ => by kernel_rfl) ?_
  simp only [Act.put, List.setIfInBounds_toArray, List.set_cons_zero, List.set_cons_succ]
  refine q_value 57 rfl (.pointer (some ⟨F, 129, none⟩)) (by kernel_rfl) (fun w' _ => by kernel_rfl) ?_
  simp only [Act.put, List.setIfInBounds_toArray, List.set_cons_zero, List.set_cons_succ]
  refine q_value 58 rfl (.pointer (some ⟨F, 225, none⟩)) (by kernel_rfl) (fun w' _ => by kernel_rfl) ?_
  simp only [Act.put, List.setIfInBounds_toArray, List.set_cons_zero, List.set_cons_succ]
  refine q_value 59 rfl (.agg (u8s p).toArray) (by kernel_rfl) (fun w' hC => run_op_load _ _ rfl F 225 rfl (u8s p) ((show Has _ 225 (u8s p) from NK.out ▸ d_lock KN.out (p_next KG.out (Has.refl (pcs g n)))).range (rF.old hC)) (szH KP.out)) ?_
  simp only [Act.put, List.setIfInBounds_toArray, List.set_cons_zero, List.set_cons_succ]
  refine q_value 60 rfl (.agg (u8s p).toArray) (by kernel_rfl) (fun w' hC => run_op_load _ _ rfl C 0 rfl (u8s p) ((show Has _ 0 (u8s p) from Has.refl _).range (rC.old hC)) (szH KP.out)) ?_
  simp only [Act.put, List.setIfInBounds_toArray, List.set_cons_zero, List.set_cons_succ]
  refine q_value 61 rfl (.bool true) (by kernel_rfl) (fun w' _ => run_op_eql _ _ _ rfl p KP.out.len rfl rfl w') ?_
  simp only [Act.put, List.setIfInBounds_toArray, List.set_cons_zero, List.set_cons_succ]
  refine q_value 62 rfl (.bool true) (by kernel_rfl) (fun w' _ => by kernel_rfl) ?_
  simp only [Act.put, List.setIfInBounds_toArray, List.set_cons_zero, List.set_cons_succ]
  refine q_value 63 rfl (.bool true) (by kernel_rfl) (fun w' _ => by kernel_rfl) ?_
  simp only [Act.put, List.setIfInBounds_toArray, List.set_cons_zero, List.set_cons_succ]
  refine q_value 64 rfl (.pointer (some ⟨F, 129, none⟩)) (by kernel_rfl) (fun w' _ => by kernel_rfl) ?_
  simp only [Act.put, List.setIfInBounds_toArray, List.set_cons_zero, List.set_cons_succ]
  refine q_value 65 rfl (.pointer (some ⟨F, 257, none⟩)) (by kernel_rfl) (fun w' _ => by kernel_rfl) ?_
  simp only [Act.put, List.setIfInBounds_toArray, List.set_cons_zero, List.set_cons_succ]
  refine q_value 66 rfl (.int .u32 1) (by kernel_rfl) (fun w' hC => run_op_load1 _ _ rfl (.int .u32) (by kernel_rfl) rfl ⟨F, 257, none⟩ rfl (.int .u32 1) (by have h := (rF.old hC).cell (show Has _ 257 _ from d_len KN.out (p_next KG.out (Has.refl (pcs g n)))).get; rw [NN.out] at h; exact h)) ?_
  simp only [Act.put, List.setIfInBounds_toArray, List.set_cons_zero, List.set_cons_succ]
  refine q_value 67 rfl (.bool true) (by kernel_rfl) (fun w' _ => by kernel_rfl) ?_
  simp only [Act.put, List.setIfInBounds_toArray, List.set_cons_zero, List.set_cons_succ]
  refine q_value 68 rfl (.bool true) (by kernel_rfl) (fun w' _ => by kernel_rfl) ?_
  simp only [Act.put, List.setIfInBounds_toArray, List.set_cons_zero, List.set_cons_succ]
  refine q_value 69 rfl (.bool true) (by kernel_rfl) (fun w' _ => by kernel_rfl) ?_
  simp only [Act.put, List.setIfInBounds_toArray, List.set_cons_zero, List.set_cons_succ]
  refine q_value 70 rfl (.pointer (some ⟨F, 0, none⟩)) (by kernel_rfl) (fun w' _ => by kernel_rfl) ?_
  simp only [Act.put, List.setIfInBounds_toArray, List.set_cons_zero, List.set_cons_succ]
  refine q_value 71 rfl (.agg (dcs g).toArray) (by kernel_rfl) (fun w' hC => run_op_load _ _ rfl F 0 rfl (dcs g) ((show Has _ 0 (dcs g) from p_now (Has.refl (pcs g n))).range (rF.old hC)) (sz_dat KG.out)) ?_
  simp only [Act.put, List.setIfInBounds_toArray, List.set_cons_zero, List.set_cons_succ]
  refine q_value 72 rfl (.pointer (some ⟨G, 129, none⟩)) (by kernel_rfl) (fun w' _ => by kernel_rfl) ?_
  simp only [Act.put, List.setIfInBounds_toArray, List.set_cons_zero, List.set_cons_succ]
  refine q_value 73 rfl (.agg (dcs g).toArray) (by kernel_rfl) (fun w' hC => run_op_load _ _ rfl G 129 rfl (dcs g) ((show Has _ 129 (dcs g) from p_next KG.out (Has.refl (pcs g g))).range (rG.old hC)) (sz_dat KG.out)) ?_
  simp only [Act.put, List.setIfInBounds_toArray, List.set_cons_zero, List.set_cons_succ]
  refine q_value 74 rfl (.bool true) (by kernel_rfl) (fun w' _ => run_op_eqlDat g KG.out _ _ _ rfl rfl rfl w') ?_
  simp only [Act.put, List.setIfInBounds_toArray, List.set_cons_zero, List.set_cons_succ]
  refine q_value 75 rfl (.bool true) (by kernel_rfl) (fun w' _ => by kernel_rfl) ?_
  simp only [Act.put, List.setIfInBounds_toArray, List.set_cons_zero, List.set_cons_succ]
  refine q_value 76 rfl (.bool true) (by kernel_rfl) (fun w' _ => by kernel_rfl) ?_
  simp only [Act.put, List.setIfInBounds_toArray, List.set_cons_zero, List.set_cons_succ]
  refine q_value 77 rfl (.pointer (some ⟨F, 129, none⟩)) (by kernel_rfl) (fun w' _ => by kernel_rfl) ?_
  simp only [Act.put, List.setIfInBounds_toArray, List.set_cons_zero, List.set_cons_succ]
  refine q_value 78 rfl (.pointer (some ⟨F, 161, none⟩)) (by kernel_rfl) (fun w' _ => by kernel_rfl) ?_
  simp only [Act.put, List.setIfInBounds_toArray, List.set_cons_zero, List.set_cons_succ]
  refine q_value 79 rfl (.agg (u8s sd).toArray) (by kernel_rfl) (fun w' hC => run_op_load _ _ rfl F 161 rfl (u8s sd) ((show Has _ 161 (u8s sd) from NS.out ▸ d_seed KN.out (p_next KG.out (Has.refl (pcs g n)))).range (rF.old hC)) (szH KS.out)) ?_
  simp only [Act.put, List.setIfInBounds_toArray, List.set_cons_zero, List.set_cons_succ]
  refine q_value 80 rfl (.agg (u8s zh).toArray) (by kernel_rfl) (fun w' _ => run_op_build _ _ rfl _ (by simp only [List.map_toArray, List.map_cons, List.map_nil]; exact b_hash0) w') ?_
  simp only [Act.put, List.setIfInBounds_toArray, List.set_cons_zero, List.set_cons_succ]
  refine q_value 81 rfl (.agg (u8s x).toArray) (by kernel_rfl) (fun w' _ => run_op_build _ _ rfl _ (by simp only [List.map_toArray, List.map_cons, List.map_nil]; exact BX.out) w') ?_
  simp only [Act.put, List.setIfInBounds_toArray, List.set_cons_zero, List.set_cons_succ]
  refine q_call 82 rfl (.agg (u8s sd).toArray) 17 #[.agg (u8s zh).toArray, .agg (u8s x).toArray] (by kernel_rfl) (fun w' _ => run_op_call _ _ _ rfl _ (by simp only [List.map_toArray, List.map_cons, List.map_nil]; rfl) Tryd.func17 (by kernel_rfl) (by kernel_rfl) w') (fun w' hC => (HSD.out ▸ rseed_any zh x w' zh_ok KX.out (HKR.out w' (below_step bel bel.size hC))).mono fun e w'' h => ⟨h.1, below_step hC hC.size h.2⟩) ?_
  simp only [Act.put, List.setIfInBounds_toArray, List.set_cons_zero, List.set_cons_succ]
  refine q_value 83 rfl (.bool true) (by kernel_rfl) (fun w' _ => run_op_eql _ _ _ rfl sd KS.out.len rfl rfl w') ?_
  simp only [Act.put, List.setIfInBounds_toArray, List.set_cons_zero, List.set_cons_succ]
  refine q_value 84 rfl (.bool true) (by kernel_rfl) (fun w' _ => by kernel_rfl) ?_
  simp only [Act.put, List.setIfInBounds_toArray, List.set_cons_zero, List.set_cons_succ]
  refine q_value 85 rfl (.bool true) (by kernel_rfl) (fun w' _ => by kernel_rfl) ?_
  simp only [Act.put, List.setIfInBounds_toArray, List.set_cons_zero, List.set_cons_succ]
  refine q_value 86 rfl (.int .i64 6) (by kernel_rfl) (fun w' _ => by kernel_rfl) ?_
  simp only [Act.put, List.setIfInBounds_toArray, List.set_cons_zero, List.set_cons_succ]
  refine q_value 87 rfl (.bool true) (by kernel_rfl) (fun w' _ => by kernel_rfl) ?_
  simp only [Act.put, List.setIfInBounds_toArray, List.set_cons_zero, List.set_cons_succ]
  refine q_value 88 rfl (.bool true) (by kernel_rfl) (fun w' _ => by kernel_rfl) ?_
  simp only [Act.put, List.setIfInBounds_toArray, List.set_cons_zero, List.set_cons_succ]
  refine q_value 0 rfl (.bool true) (by kernel_rfl) (fun w' _ => by kernel_rfl) ?_
  simp only [Act.put, List.setIfInBounds_toArray, List.set_cons_zero, List.set_cons_succ]
  refine wpQuiet_nil ?_
  intro w14 hC
  have belF : Below w.heap.size w w14 := below_step bel bel.size hC
  clear hC rA rC rG rF bel
  go_wp2_with fail
  go_ret
  exact ⟨rfl, belF⟩
end Go.Proofs.YtijpgncecfgfdaaDoor.Ep
