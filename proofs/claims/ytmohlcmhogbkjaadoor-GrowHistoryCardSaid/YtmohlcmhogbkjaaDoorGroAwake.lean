/-
  The contract of layer 10's awake: the calls whose answers the document fixes answer so: it returns true. Over this seat's translation.
-/
import Derived.Test.YtmohlcmhogbkjaaDoorGroChain
import Derived.Test.YtmohlcmhogbkjaaDoorCmp
namespace Go.Proofs.YtmohlcmhogbkjaaDoor.Gr
open Go.ChangeShapes Go.WideShapes Go.ChangeAt Go.RowKit Go.Proofs.YtmohlcmhogbkjaaDoor.Mem Go.Proofs.YtmohlcmhogbkjaaDoor.Bt Go.Proofs.YtmohlcmhogbkjaaDoor.Rg Go.Proofs.YtmohlcmhogbkjaaDoor.Wn Go.Proofs.YtmohlcmhogbkjaaDoor.Sa Go.Proofs.YtmohlcmhogbkjaaDoor.Sha
open Go.Proofs.YtmohlcmhogbkjaaDoor.Ep (H32 Dat Blk zh zh_ok num32 zd zd_ok Has h_len one_app one_num szH zH fitH allH)
set_option linter.unusedVariables false
set_option linter.unusedSimpArgs false

/-- A digest of one byte, and zeros. -/
def hn (n : Nat) : List Nat := n :: List.replicate 31 0
theorem hn_ok {n : Nat} (h : n < 256) : H32 (hn n) := ⟨by unfold hn; simp, fun x hx => by
  unfold hn at hx
  rcases List.mem_cons.1 hx with rfl | hx
  · exact h
  · have := List.eq_of_mem_replicate hx; omega⟩
def aw1 : Gb := ⟨3, zh, zh⟩
def aw2 : Gb := ⟨30, zh, zh⟩
def aw3 (x : List Nat) : Gb := ⟨50, zh, x⟩
def aw4 : Gb := ⟨50, zh, zh⟩
theorem aw1_ok : aw1.Ok := ⟨(by decide : 3 < 4294967296), zh_ok, zh_ok⟩
theorem aw2_ok : aw2.Ok := ⟨(by decide : 30 < 4294967296), zh_ok, zh_ok⟩
theorem aw3_ok {x : List Nat} (h : H32 x) : (aw3 x).Ok := ⟨(by decide : 50 < 4294967296), zh_ok, h⟩
theorem aw4_ok : aw4.Ok := ⟨(by decide : 50 < 4294967296), zh_ok, zh_ok⟩
theorem awk_first (y : List Nat) : Fine (genS y) aw1 := fine_of (by rw [show nsOf (genS y) = ⟨0, 1, 0, 12, 0, [1, 3, 3, 3], 1⟩ from rfl]; decide)
theorem awk_pure (y x : List Nat) : ∃ s, chainF (genS y) 0 [aw1, aw2, aw3 x] = (s, 3, 0) ∧ (s.slot = 50 ∧ s.len = 4 ∧ s.count = 2 ∧ s.draw = x) ∧ SRt s ∧ (H32 y → H32 x → s.Ok) := by
  have n0 : nsOf (genS y) = ⟨0, 1, 0, 12, 0, [1, 3, 3, 3], 1⟩ := rfl
  have f1 := awk_first y
  have e1 : nsOf (chS (genS y) aw1) = stepN ⟨0, 1, 0, 12, 0, [1, 3, 3, 3], 1⟩ 3 := by rw [ns_step f1, n0]; rfl
  have f2 : Fine (chS (genS y) aw1) aw2 := fine_of (by rw [e1]; decide)
  have e2 : nsOf (chS (chS (genS y) aw1) aw2) = stepN (stepN ⟨0, 1, 0, 12, 0, [1, 3, 3, 3], 1⟩ 3) 30 := by rw [ns_step f2, e1]; rfl
  have f3 : Fine (chS (chS (genS y) aw1) aw2) (aw3 x) := fine_of (by rw [e2]; show FineN _ 50; decide)
  have e3 : nsOf (chS (chS (chS (genS y) aw1) aw2) (aw3 x)) = stepN (stepN (stepN ⟨0, 1, 0, 12, 0, [1, 3, 3, 3], 1⟩ 3) 30) 50 := by rw [ns_step f3, e2]; rfl
  have z1 := chE_zero.2 f1; have z2 := chE_zero.2 f2; have z3 := chE_zero.2 f3
  refine ⟨chS (chS (chS (genS y) aw1) aw2) (aw3 x), ?_, ⟨?_, ?_, ?_, ?_⟩, chS_right (chS_right (chS_right (gen_right y) z1) z2) z3, fun hy hx => chS_ok (chS_ok (chS_ok (gen_ok hy) (gen_right y) aw1_ok) (chS_right (gen_right y) z1) aw2_ok) (chS_right (chS_right (gen_right y) z1) z2) (aw3_ok hx)⟩
  · rw [chainF, if_pos z1, chainF, if_pos z2, chainF, if_pos z3, chainF]
  · exact congrArg Ns.slot e3
  · exact congrArg Ns.len e3
  · exact congrArg Ns.count e3
  · rw [chS_fine f3]; rfl
set_option maxRecDepth 100000 in
theorem run_gb3 (w : World) : (Instr.buildSlice 45 3 #[(0, .agg (gcs aw1).toArray), (1, .agg (gcs aw2).toArray), (2, .agg (gcs (aw3 (hn 7))).toArray)]).run Tryd.prog w = .ok (.slice (some ⟨w.heap.size, 0, none⟩) 3 3) (w.alloc (.cells (gcs aw1 ++ (gcs aw2 ++ gcs (aw3 (hn 7)))).toArray 37)) := by kernel_rfl
theorem gbs_aw {w : World} {b : Nat} (hr : Row w b 37 (gcs aw1 ++ (gcs aw2 ++ gcs (aw3 (hn 7))))) : Gbs w (some ⟨b, 0, none⟩) [aw1, aw2, aw3 (hn 7)] := by
  have k3 := aw3_ok (hn_ok (n := 7) (by decide))
  have l1 := gcs_len aw1_ok; have l2 := gcs_len aw2_ok
  refine ⟨fun k y hk => ?_, fun y hy => ?_⟩
  · refine ⟨b, 0, rfl, hr.lt, ?_⟩
    rw [Nat.zero_add]
    have h1 : Has (gcs aw1 ++ (gcs aw2 ++ gcs (aw3 (hn 7)))) 0 (gcs aw1) := (Has.refl _).left
    have h2 : Has (gcs aw1 ++ (gcs aw2 ++ gcs (aw3 (hn 7)))) (0 + 65) (gcs aw2 ++ gcs (aw3 (hn 7))) := (Has.refl _).right 65 l1
    match k, hk with
    | 0, hk => obtain rfl : aw1 = y := by simpa using hk
               exact h1.range hr
    | 1, hk => obtain rfl : aw2 = y := by simpa using hk
               exact h2.left.range hr
    | 2, hk => obtain rfl : aw3 (hn 7) = y := by simpa using hk
               exact (h2.right 65 l2).range hr
    | k + 3, hk => simp at hk
  · simp only [List.mem_cons, List.not_mem_nil, or_false] at hy
    rcases hy with rfl | rfl | rfl
    · exact aw1_ok
    · exact aw2_ok
    · exact k3
section
variable {ops : Array Oper} {rest : List Oper} {o : Oper} {a : Act} {w : World} {Q : Exit → Act → World → Prop}
theorem arm_gb3 (hgd : o.guard = none) (x1 x2 x3 : Operand) (ho : o.op = .buildSlice 45 3 #[(0, x1), (1, x2), (2, x3)]) (h1 : a.eval x1 = .agg (gcs aw1).toArray) (h2 : a.eval x2 = .agg (gcs aw2).toArray) (h3 : a.eval x3 = .agg (gcs (aw3 (hn 7))).toArray)
    (h : ∀ b w2, Hid (b = w.heap.size) → Gbs w2 (some ⟨b, 0, none⟩) [aw1, aw2, aw3 (hn 7)] → New w w2 → wpList Tryd.prog ops Q rest (a.put o.dst (.slice (some ⟨b, 0, none⟩) 3 3)) w2) : wpList Tryd.prog ops Q (o :: rest) a w := by
  refine wpList_plain hgd fun K hK => ?_
  unfold Oper.wp execOp
  simp only [ho, List.map_toArray, List.map_cons, List.map_nil, h1, h2, h3, Sem.run_bind, run_gb3, Result.andThen_ok, Sem.run_pure]
  exact hK _ _ (h _ _ rfl (gbs_aw (heap_alloc_new _ _)) (new_alloc _ _))
end
set_option maxHeartbeats 4000000 in
set_option maxRecDepth 100000 in
theorem awake_any (w : World) (hk : w.rangeAt 1 0 (u32s ks)) :
    Calls Tryd.prog 6 #[] w fun e w' => e = .returned (.bool true) ∧ Below w.heap.size w w' := by
  have hk1 : 1 < w.heap.size := range_lt hk (by simp [u32s, ks])
  have HKW : Hid (∀ w', Below w.heap.size w w' → w'.rangeAt 1 0 (u32s ks)) := Lib.hid fun w' hb => range_block hk (hb.block _ hk1)
  clear hk hk1
  obtain ⟨y, hy⟩ : ∃ y, y = hn 1 := ⟨_, rfl⟩
  have BY := Lib.hid (show Tryd.prog.built 23 [(0, .int .u8 1)] = some (u8s y).toArray by rw [hy]; kernel_rfl)
  have KY := Lib.hid (show H32 y by rw [hy]; exact hn_ok (by decide))
  clear hy
  have BX := Lib.hid (show Tryd.prog.built 23 [(0, .int .u8 7)] = some (u8s (hn 7)).toArray by kernel_rfl)
  have B1 := Lib.hid (show Tryd.prog.built 37 [(0, .int .u32 3)] = some (gcs aw1).toArray by kernel_rfl)
  have B2 := Lib.hid (show Tryd.prog.built 37 [(0, .int .u32 30)] = some (gcs aw2).toArray by kernel_rfl)
  have B3 := Lib.hid (show Tryd.prog.built 37 [(0, .int .u32 50), (2, .agg (u8s (hn 7)).toArray)] = some (gcs (aw3 (hn 7))).toArray by kernel_rfl)
  have B4 := Lib.hid (show Tryd.prog.built 37 [(0, .int .u32 50)] = some (gcs aw4).toArray by kernel_rfl)
  obtain ⟨s, hs, ⟨hsl, hln, hct, hdr⟩, hsr, hso⟩ := awk_pure y (hn 7)
  have KS := Lib.hid (hso KY.out (hn_ok (by decide)))
  have HSL : Hid (decide ((s.slot : Int) = 50) = true) := Lib.hid (by rw [hsl]; rfl)
  have HLN : Hid (decide ((s.len : Int) = 4) = true) := Lib.hid (by rw [hln]; rfl)
  have HCT : Hid (decide ((s.count : Int) = 2) = true) := Lib.hid (by rw [hct]; rfl)
  have HDR : Hid (Has (scs s) 64 [.int .u8 7]) := Lib.hid (by have h := h_drw KS.out; rw [hdr] at h; exact Has.head (v := .int .u8 7) (b := u8s (List.replicate 31 0)) h)
  have CC : Hid (∀ w0 b, Gbs w0 (some ⟨b, 0, none⟩) [aw1, aw2, aw3 (hn 7)] → w0.rangeAt 1 0 (u32s ks) → Calls Tryd.prog 10 #[.agg (u8s y).toArray, .slice (some ⟨b, 0, none⟩) 3 3] w0 fun e w' => e = .returned (.tuple #[.agg (scs s).toArray, .int .i64 3, .int .i64 0]) ∧ Below w0.heap.size w0 w') := Lib.hid fun w0 b h hk => by
    have c := chain_any y [aw1, aw2, aw3 (hn 7)] (some ⟨b, 0, none⟩) 3 w0 KY.out h (by simp) hk
    rw [hs] at c
    exact c
  have hbad : chE s aw4 = 6 := chE_slot (by rw [hsl]; exact Nat.le_refl _)
  have C4 := Lib.hid (fun w0 h => child_any s aw4 w0 KS.out hsr aw4_ok h)
  rw [hbad, chS_bad (by rw [hbad]; decide)] at C4
  have CR := Lib.hid (fun w0 => right_any s w0 KS.out)
  rw [decide_eq_true hsr] at CR
  have CG := Lib.hid (fun w0 => sgenesis_any y w0 KY.out)
  have GK := Lib.hid (gen_ok KY.out)
  have CH := Lib.hid (fun w0 h => shash_any (genS y) w0 (gen_ok KY.out) h)
  have C1 := Lib.hid (fun w0 h => child_any (genS y) aw1 w0 (gen_ok KY.out) (gen_right y) aw1_ok h)
  rw [chE_zero.2 (awk_first y)] at C1
  have KC := Lib.hid (chS_ok (gen_ok KY.out) (gen_right y) aw1_ok)
  have HPV : Hid (Has (scs (chS (genS y) aw1)) 0 (u8s (digS (genS y)))) := Lib.hid (by have h := h_prev KC.out; rw [show (chS (genS y) aw1).prev = digS (genS y) by rw [chS_fine (awk_first y)]; rfl] at h; exact h)
  have KD := Lib.hid (digS_ok (genS y))
  generalize digS (genS y) = dg at CH HPV KD
  generalize chS (genS y) aw1 = c at C1 KC HPV
  generalize genS y = g at CG GK CH C1
  clear hs hsl hln hct hdr hsr hso hbad
  go_enter Tryd.func6, Tryd.ntmps6
  go_wp2_with (first
    | ((with_reducible refine at_slot 10 ?_); (refine arm_build (o := ⟨some 10, _, _, _, _, _⟩) rfl _ _ rfl (u8s y) (by simp only [List.map_toArray, List.map_cons, List.map_nil]; exact BY.out) ?_))
    | ((with_reducible refine at_slot 11 ?_); (refine arm_build (o := ⟨some 11, _, _, _, _, _⟩) rfl _ _ rfl (gcs aw1) (by simp only [List.map_toArray, List.map_cons, List.map_nil]; exact B1.out) ?_))
    | ((with_reducible refine at_slot 12 ?_); (refine arm_build (o := ⟨some 12, _, _, _, _, _⟩) rfl _ _ rfl (gcs aw2) (by simp only [List.map_toArray, List.map_cons, List.map_nil]; exact B2.out) ?_))
    | ((with_reducible refine at_slot 13 ?_); (refine arm_build (o := ⟨some 13, _, _, _, _, _⟩) rfl _ _ rfl (u8s (hn 7)) (by simp only [List.map_toArray, List.map_cons, List.map_nil]; exact BX.out) ?_))
    | ((with_reducible refine at_slot 14 ?_); (refine arm_build (o := ⟨some 14, _, _, _, _, _⟩) rfl _ _ rfl (gcs (aw3 (hn 7))) (by simp only [List.map_toArray, List.map_cons, List.map_nil]; exact B3.out) ?_))
    | ((with_reducible refine at_slot 15 ?_); (refine arm_gb3 (o := ⟨some 15, _, _, _, _, _⟩) rfl _ _ _ rfl rfl rfl rfl ?_); intro Q u1 Qe hq1 nu1))
  have bel0 : Below w.heap.size w u1 := nu1.below
  clear nu1 Qe
  have hq2 := Lib.hid hq1
  clear hq1
  refine (CC.out _ Q hq2.out (HKW.out _ bel0)).mono ?_
  rintro e y1 ⟨rfl, hB⟩
  have bel1 : Below w.heap.size w y1 := below_step bel0 bel0.size hB
  clear hB bel0
  clear hq2
  go_wp2_with (first
    | ((with_reducible refine at_slot 1 ?_); (refine arm_alloc (o := ⟨some 1, _, _, _, _, _⟩) rfl _ rfl (scs zs) z_sta ?_); intro A v2 Ae hv2 nv2)
    | ((with_reducible refine arm_store (o := ⟨none, _, _, _, _, _⟩) rfl _ _ _ rfl A 0 rfl (scs s) rfl _ _ (hv2) (fitS KS.out) (scs_one _) (sz_sta KS.out) ?_); intro v3 hv3 ov3 sv3)
    | ((with_reducible refine at_slot 21 ?_); (refine arm_load (o := ⟨some 21, _, _, _, _, _⟩) rfl _ _ rfl A 0 rfl (scs s) ((show Has (scs s) 0 (scs s) from Has.refl _).range ((hv3.congr (allS KS.out)))) (sz_sta KS.out) ?_))
    | ((with_reducible refine at_slot 22 ?_); (refine arm_build (o := ⟨some 22, _, _, _, _, _⟩) rfl _ _ rfl (gcs aw4) (by simp only [List.map_toArray, List.map_cons, List.map_nil]; exact B4.out) ?_)))
  have q0 := Ae.out
  have q1 := nv2.size
  have q2 := sv3.out
  have q3 := bel1.size
  have lA : w.heap.size ≤ A := by omega
  have rA4 : Row v3 A 35 (scs s) := (hv3.congr (allS KS.out))
  have bel4 : Below w.heap.size w v3 := (below_only (below_step bel1 (by omega) nv2.below) ov3 lA (by omega))
  clear q0 q1 q2 q3 bel1 Ae hv2 nv2 hv3 ov3 sv3
  refine (C4.out _ (HKW.out _ bel4)).mono ?_
  rintro e y5 ⟨rfl, hB⟩
  have rA5 : Row y5 A 35 (scs s) := rA4.old hB
  have bel5 : Below w.heap.size w y5 := below_step bel4 bel4.size hB
  clear hB rA4 bel4
  go_wp2_with (first
    | ((with_reducible refine at_slot 4 ?_); (refine arm_alloc (o := ⟨some 4, _, _, _, _, _⟩) rfl _ rfl (scs zs) z_sta ?_); intro D v6 De hv6 nv6)
    | ((with_reducible refine arm_store (o := ⟨none, _, _, _, _, _⟩) rfl _ _ _ rfl D 0 rfl (scs zs) rfl _ _ (hv6) (fitS zs_ok) (scs_one _) (sz_sta zs_ok) ?_); intro v7 hv7 ov7 sv7)
    | ((with_reducible refine at_slot 26 ?_); (refine arm_build (o := ⟨some 26, _, _, _, _, _⟩) rfl _ _ rfl (u8s y) (by simp only [List.map_toArray, List.map_cons, List.map_nil]; exact BY.out) ?_)))
  have q0 := De.out
  have q1 := nv6.size
  have q2 := sv7.out
  have q3 := rA5.lt
  have q4 := bel5.size
  have lD : w.heap.size ≤ D := by omega
  have nAD : A ≠ D := by omega
  have nDA : D ≠ A := by omega
  have rA8 : Row v7 A 35 (scs s) := ((rA5.old nv6.below).only ov7 nAD)
  have rD8 : Row v7 D 35 (scs zs) := (hv7.congr (allS zs_ok))
  have bel8 : Below w.heap.size w v7 := (below_only (below_step bel5 (by omega) nv6.below) ov7 lD (by omega))
  clear q0 q1 q2 q3 q4 rA5 bel5 De hv6 nv6 hv7 ov7 sv7
  clear rD8
  refine (CG.out _).mono ?_
  rintro e y9 ⟨rfl, hB⟩
  have rA9 : Row y9 A 35 (scs s) := rA8.old hB
  have bel9 : Below w.heap.size w y9 := below_step bel8 bel8.size hB
  clear hB rA8 bel8
  go_wp2_with (first
    | ((with_reducible refine at_slot 6 ?_); (refine arm_alloc (o := ⟨some 6, _, _, _, _, _⟩) rfl _ rfl (scs zs) z_sta ?_); intro G v10 Ge hv10 nv10)
    | ((with_reducible refine arm_store (o := ⟨none, _, _, _, _, _⟩) rfl _ _ _ rfl G 0 rfl (scs g) rfl _ _ (hv10) (fitS GK.out) (scs_one _) (sz_sta GK.out) ?_); intro v11 hv11 ov11 sv11)
    | ((with_reducible refine at_slot 29 ?_); (refine arm_load (o := ⟨some 29, _, _, _, _, _⟩) rfl _ _ rfl G 0 rfl (scs g) ((show Has (scs g) 0 (scs g) from Has.refl _).range ((hv11.congr (allS GK.out)))) (sz_sta GK.out) ?_))
    | ((with_reducible refine at_slot 30 ?_); (refine arm_build (o := ⟨some 30, _, _, _, _, _⟩) rfl _ _ rfl (gcs aw1) (by simp only [List.map_toArray, List.map_cons, List.map_nil]; exact B1.out) ?_)))
  have q0 := Ge.out
  have q1 := nv10.size
  have q2 := sv11.out
  have q3 := rA9.lt
  have q4 := bel9.size
  have lG : w.heap.size ≤ G := by omega
  have nAG : A ≠ G := by omega
  have nGA : G ≠ A := by omega
  have rA12 : Row v11 A 35 (scs s) := ((rA9.old nv10.below).only ov11 nAG)
  have rG12 : Row v11 G 35 (scs g) := (hv11.congr (allS GK.out))
  have bel12 : Below w.heap.size w v11 := (below_only (below_step bel9 (by omega) nv10.below) ov11 lG (by omega))
  clear q0 q1 q2 q3 q4 rA9 bel9 Ge hv10 nv10 hv11 ov11 sv11
  refine (C1.out _ (HKW.out _ bel12)).mono ?_
  rintro e y13 ⟨rfl, hB⟩
  have rA13 : Row y13 A 35 (scs s) := rA12.old hB
  have rG13 : Row y13 G 35 (scs g) := rG12.old hB
  have bel13 : Below w.heap.size w y13 := below_step bel12 bel12.size hB
  clear hB rA12 rG12 bel12
  go_wp2_with (first
    | ((with_reducible refine at_slot 7 ?_); (refine arm_alloc (o := ⟨some 7, _, _, _, _, _⟩) rfl _ rfl (scs zs) z_sta ?_); intro C v14 Ce hv14 nv14)
    | ((with_reducible refine arm_store (o := ⟨none, _, _, _, _, _⟩) rfl _ _ _ rfl C 0 rfl (scs c) rfl _ _ (hv14) (fitS KC.out) (scs_one _) (sz_sta KC.out) ?_); intro v15 hv15 ov15 sv15))
  have q0 := Ce.out
  have q1 := nv14.size
  have q2 := sv15.out
  have q3 := rA13.lt
  have q4 := rG13.lt
  have q5 := bel13.size
  have lC : w.heap.size ≤ C := by omega
  have nAC : A ≠ C := by omega
  have nCA : C ≠ A := by omega
  have nGC : G ≠ C := by omega
  have nCG : C ≠ G := by omega
  have rA16 : Row v15 A 35 (scs s) := ((rA13.old nv14.below).only ov15 nAC)
  have rG16 : Row v15 G 35 (scs g) := ((rG13.old nv14.below).only ov15 nGC)
  have rC16 : Row v15 C 35 (scs c) := (hv15.congr (allS KC.out))
  have bel16 : Below w.heap.size w v15 := (below_only (below_step bel13 (by omega) nv14.below) ov15 lC (by omega))
  clear q0 q1 q2 q3 q4 q5 rA13 rG13 bel13 Ce hv14 nv14 hv15 ov15 sv15
  refine wp_region_held (S := fun w' => Row w' A 35 (scs s) ∧ Row w' G 35 (scs g) ∧ Row w' C 35 (scs c) ∧ True) (by kernel_rfl) ?_
  change wpAnyH _ _ _ _ _ _ _ _ v15.drew
  have rA17 : Row v15.drew A 35 (scs s) := rA16
  have rG17 : Row v15.drew G 35 (scs g) := rG16
  have rC17 : Row v15.drew C 35 (scs c) := rC16
  have bel17 : Below w.heap.size w v15.drew := bel16.trans ((Below.refl _ _).drew)
  clear rA16 rG16 rC16 bel16
  generalize v15.drew = y17 at rA17 rG17 rC17 bel17 ⊢
  refine h_take 0 (.int .i64 3) rfl 34 rfl (by kernel_rfl) (by kernel_rfl) (by kernel_rfl) (by kernel_rfl) (fun _ _ _ h => h) (fun w' _ => by kernel_rfl) ⟨rA17, rG17, rC17, trivial⟩ ?_
  simp only [Act.put, List.setIfInBounds_toArray, List.set_cons_zero, List.set_cons_succ]
  refine h_take 1 (.bool true) rfl 35 rfl (by kernel_rfl) (by kernel_rfl) (by kernel_rfl) (by kernel_rfl) (fun _ _ _ h => h) (fun w' _ => by kernel_rfl) ⟨rA17, rG17, rC17, trivial⟩ ?_
  simp only [Act.put, List.setIfInBounds_toArray, List.set_cons_zero, List.set_cons_succ]
  refine h_take 2 (.bool true) rfl 36 rfl (by kernel_rfl) (by kernel_rfl) (by kernel_rfl) (by kernel_rfl) (fun _ _ _ h => h) (fun w' _ => by kernel_rfl) ⟨rA17, rG17, rC17, trivial⟩ ?_
  simp only [Act.put, List.setIfInBounds_toArray, List.set_cons_zero, List.set_cons_succ]
  refine h_take 3 (.int .i64 0) rfl 37 rfl (by kernel_rfl) (by kernel_rfl) (by kernel_rfl) (by kernel_rfl) (fun _ _ _ h => h) (fun w' _ => by kernel_rfl) ⟨rA17, rG17, rC17, trivial⟩ ?_
  simp only [Act.put, List.setIfInBounds_toArray, List.set_cons_zero, List.set_cons_succ]
  refine h_take 4 (.bool true) rfl 38 rfl (by kernel_rfl) (by kernel_rfl) (by kernel_rfl) (by kernel_rfl) (fun _ _ _ h => h) (fun w' _ => by kernel_rfl) ⟨rA17, rG17, rC17, trivial⟩ ?_
  simp only [Act.put, List.setIfInBounds_toArray, List.set_cons_zero, List.set_cons_succ]
  refine h_take 5 (.bool true) rfl 39 rfl (by kernel_rfl) (by kernel_rfl) (by kernel_rfl) (by kernel_rfl) (fun _ _ _ h => h) (fun w' _ => by kernel_rfl) ⟨rA17, rG17, rC17, trivial⟩ ?_
  simp only [Act.put, List.setIfInBounds_toArray, List.set_cons_zero, List.set_cons_succ]
  refine h_take 6 (.bool true) rfl 40 rfl (by kernel_rfl) (by kernel_rfl) (by kernel_rfl) (by kernel_rfl) (fun _ _ _ h => h) (fun w' _ => by kernel_rfl) ⟨rA17, rG17, rC17, trivial⟩ ?_
  simp only [Act.put, List.setIfInBounds_toArray, List.set_cons_zero, List.set_cons_succ]
  refine h_take 7 (.pointer (some ⟨A, 96, none⟩)) rfl 41 rfl (by kernel_rfl) (by kernel_rfl) (by kernel_rfl) (by kernel_rfl) (fun _ _ _ h => h) (fun w' _ => by kernel_rfl) ⟨rA17, rG17, rC17, trivial⟩ ?_
  simp only [Act.put, List.setIfInBounds_toArray, List.set_cons_zero, List.set_cons_succ]
  refine h_take 8 (num32 s.slot) rfl 42 rfl (by kernel_rfl) (by kernel_rfl) (by kernel_rfl) (by kernel_rfl) (fun _ _ _ h => h) (fun w' hw => run_op_load1 _ _ rfl (.int .u32) (by kernel_rfl) rfl ⟨A, 96, none⟩ rfl (num32 s.slot) (hw.1.cell (show Has (scs s) 96 [num32 s.slot] from h_slt KS.out).get)) ⟨rA17, rG17, rC17, trivial⟩ ?_
  simp only [Act.put, List.setIfInBounds_toArray, List.set_cons_zero, List.set_cons_succ]
  refine h_take 9 (.bool true) rfl 43 rfl (by kernel_rfl) (by kernel_rfl) (by kernel_rfl) (by kernel_rfl) (fun _ _ _ h => h) (fun w' _ => cmp_eql _ _ .u32 (by kernel_rfl) _ _ rfl .u32 (s.slot : Int) 50 rfl rfl true HSL.out w') ⟨rA17, rG17, rC17, trivial⟩ ?_
  simp only [Act.put, List.setIfInBounds_toArray, List.set_cons_zero, List.set_cons_succ]
  refine h_take 10 (.bool true) rfl 44 rfl (by kernel_rfl) (by kernel_rfl) (by kernel_rfl) (by kernel_rfl) (fun _ _ _ h => h) (fun w' _ => by kernel_rfl) ⟨rA17, rG17, rC17, trivial⟩ ?_
  simp only [Act.put, List.setIfInBounds_toArray, List.set_cons_zero, List.set_cons_succ]
  refine h_take 11 (.bool true) rfl 45 rfl (by kernel_rfl) (by kernel_rfl) (by kernel_rfl) (by kernel_rfl) (fun _ _ _ h => h) (fun w' _ => by kernel_rfl) ⟨rA17, rG17, rC17, trivial⟩ ?_
  simp only [Act.put, List.setIfInBounds_toArray, List.set_cons_zero, List.set_cons_succ]
  refine h_take 12 (.pointer (some ⟨A, 97, none⟩)) rfl 46 rfl (by kernel_rfl) (by kernel_rfl) (by kernel_rfl) (by kernel_rfl) (fun _ _ _ h => h) (fun w' _ => by kernel_rfl) ⟨rA17, rG17, rC17, trivial⟩ ?_
  simp only [Act.put, List.setIfInBounds_toArray, List.set_cons_zero, List.set_cons_succ]
  refine h_take 13 (num32 s.len) rfl 47 rfl (by kernel_rfl) (by kernel_rfl) (by kernel_rfl) (by kernel_rfl) (fun _ _ _ h => h) (fun w' hw => run_op_load1 _ _ rfl (.int .u32) (by kernel_rfl) rfl ⟨A, 97, none⟩ rfl (num32 s.len) (hw.1.cell (show Has (scs s) 97 [num32 s.len] from h_lngth KS.out).get)) ⟨rA17, rG17, rC17, trivial⟩ ?_
  simp only [Act.put, List.setIfInBounds_toArray, List.set_cons_zero, List.set_cons_succ]
  refine h_take 14 (.bool true) rfl 48 rfl (by kernel_rfl) (by kernel_rfl) (by kernel_rfl) (by kernel_rfl) (fun _ _ _ h => h) (fun w' _ => cmp_eql _ _ .u32 (by kernel_rfl) _ _ rfl .u32 (s.len : Int) 4 rfl rfl true HLN.out w') ⟨rA17, rG17, rC17, trivial⟩ ?_
  simp only [Act.put, List.setIfInBounds_toArray, List.set_cons_zero, List.set_cons_succ]
  refine h_take 15 (.bool true) rfl 49 rfl (by kernel_rfl) (by kernel_rfl) (by kernel_rfl) (by kernel_rfl) (fun _ _ _ h => h) (fun w' _ => by kernel_rfl) ⟨rA17, rG17, rC17, trivial⟩ ?_
  simp only [Act.put, List.setIfInBounds_toArray, List.set_cons_zero, List.set_cons_succ]
  refine h_take 16 (.bool true) rfl 50 rfl (by kernel_rfl) (by kernel_rfl) (by kernel_rfl) (by kernel_rfl) (fun _ _ _ h => h) (fun w' _ => by kernel_rfl) ⟨rA17, rG17, rC17, trivial⟩ ?_
  simp only [Act.put, List.setIfInBounds_toArray, List.set_cons_zero, List.set_cons_succ]
  refine h_take 17 (.pointer (some ⟨A, 98, none⟩)) rfl 51 rfl (by kernel_rfl) (by kernel_rfl) (by kernel_rfl) (by kernel_rfl) (fun _ _ _ h => h) (fun w' _ => by kernel_rfl) ⟨rA17, rG17, rC17, trivial⟩ ?_
  simp only [Act.put, List.setIfInBounds_toArray, List.set_cons_zero, List.set_cons_succ]
  refine h_take 18 (num32 s.count) rfl 52 rfl (by kernel_rfl) (by kernel_rfl) (by kernel_rfl) (by kernel_rfl) (fun _ _ _ h => h) (fun w' hw => run_op_load1 _ _ rfl (.int .u32) (by kernel_rfl) rfl ⟨A, 98, none⟩ rfl (num32 s.count) (hw.1.cell (show Has (scs s) 98 [num32 s.count] from h_cnt KS.out).get)) ⟨rA17, rG17, rC17, trivial⟩ ?_
  simp only [Act.put, List.setIfInBounds_toArray, List.set_cons_zero, List.set_cons_succ]
  refine h_take 19 (.bool true) rfl 53 rfl (by kernel_rfl) (by kernel_rfl) (by kernel_rfl) (by kernel_rfl) (fun _ _ _ h => h) (fun w' _ => cmp_eql _ _ .u32 (by kernel_rfl) _ _ rfl .u32 (s.count : Int) 2 rfl rfl true HCT.out w') ⟨rA17, rG17, rC17, trivial⟩ ?_
  simp only [Act.put, List.setIfInBounds_toArray, List.set_cons_zero, List.set_cons_succ]
  refine h_take 20 (.bool true) rfl 54 rfl (by kernel_rfl) (by kernel_rfl) (by kernel_rfl) (by kernel_rfl) (fun _ _ _ h => h) (fun w' _ => by kernel_rfl) ⟨rA17, rG17, rC17, trivial⟩ ?_
  simp only [Act.put, List.setIfInBounds_toArray, List.set_cons_zero, List.set_cons_succ]
  refine h_take 21 (.bool true) rfl 55 rfl (by kernel_rfl) (by kernel_rfl) (by kernel_rfl) (by kernel_rfl) (fun _ _ _ h => h) (fun w' _ => by kernel_rfl) ⟨rA17, rG17, rC17, trivial⟩ ?_
  simp only [Act.put, List.setIfInBounds_toArray, List.set_cons_zero, List.set_cons_succ]
  refine h_take 22 (.pointer (some ⟨A, 64, none⟩)) rfl 56 rfl (by kernel_rfl) (by kernel_rfl) (by kernel_rfl) (by kernel_rfl) (fun _ _ _ h => h) (fun w' _ => by kernel_rfl) ⟨rA17, rG17, rC17, trivial⟩ ?_
  simp only [Act.put, List.setIfInBounds_toArray, List.set_cons_zero, List.set_cons_succ]
  refine h_take 23 (.pointer (some ⟨A, 64, none⟩)) rfl 57 rfl (by kernel_rfl) (by kernel_rfl) (by kernel_rfl) (by kernel_rfl) (fun _ _ _ h => h) (fun w' _ => by kernel_rfl) ⟨rA17, rG17, rC17, trivial⟩ ?_
  simp only [Act.put, List.setIfInBounds_toArray, List.set_cons_zero, List.set_cons_succ]
  refine h_take 24 (.int .u8 7) rfl 58 rfl (by kernel_rfl) (by kernel_rfl) (by kernel_rfl) (by kernel_rfl) (fun _ _ _ h => h) (fun w' hw => run_op_load1 _ _ rfl (.int .u8) (by kernel_rfl) rfl ⟨A, 64, none⟩ rfl (.int .u8 7) (hw.1.cell (show Has (scs s) 64 [.int .u8 7] from HDR.out).get)) ⟨rA17, rG17, rC17, trivial⟩ ?_
  simp only [Act.put, List.setIfInBounds_toArray, List.set_cons_zero, List.set_cons_succ]
  refine h_take 25 (.bool true) rfl 59 rfl (by kernel_rfl) (by kernel_rfl) (by kernel_rfl) (by kernel_rfl) (fun _ _ _ h => h) (fun w' _ => by kernel_rfl) ⟨rA17, rG17, rC17, trivial⟩ ?_
  simp only [Act.put, List.setIfInBounds_toArray, List.set_cons_zero, List.set_cons_succ]
  refine h_take 26 (.bool true) rfl 60 rfl (by kernel_rfl) (by kernel_rfl) (by kernel_rfl) (by kernel_rfl) (fun _ _ _ h => h) (fun w' _ => by kernel_rfl) ⟨rA17, rG17, rC17, trivial⟩ ?_
  simp only [Act.put, List.setIfInBounds_toArray, List.set_cons_zero, List.set_cons_succ]
  refine h_take 27 (.bool true) rfl 61 rfl (by kernel_rfl) (by kernel_rfl) (by kernel_rfl) (by kernel_rfl) (fun _ _ _ h => h) (fun w' _ => by kernel_rfl) ⟨rA17, rG17, rC17, trivial⟩ ?_
  simp only [Act.put, List.setIfInBounds_toArray, List.set_cons_zero, List.set_cons_succ]
  refine h_take 28 (.int .i64 6) rfl 62 rfl (by kernel_rfl) (by kernel_rfl) (by kernel_rfl) (by kernel_rfl) (fun _ _ _ h => h) (fun w' _ => by kernel_rfl) ⟨rA17, rG17, rC17, trivial⟩ ?_
  simp only [Act.put, List.setIfInBounds_toArray, List.set_cons_zero, List.set_cons_succ]
  refine h_take 29 (.bool true) rfl 63 rfl (by kernel_rfl) (by kernel_rfl) (by kernel_rfl) (by kernel_rfl) (fun _ _ _ h => h) (fun w' _ => by kernel_rfl) ⟨rA17, rG17, rC17, trivial⟩ ?_
  simp only [Act.put, List.setIfInBounds_toArray, List.set_cons_zero, List.set_cons_succ]
  refine h_take 30 (.bool true) rfl 64 rfl (by kernel_rfl) (by kernel_rfl) (by kernel_rfl) (by kernel_rfl) (fun _ _ _ h => h) (fun w' _ => by kernel_rfl) ⟨rA17, rG17, rC17, trivial⟩ ?_
  simp only [Act.put, List.setIfInBounds_toArray, List.set_cons_zero, List.set_cons_succ]
  refine h_take 31 (.bool true) rfl 65 rfl (by kernel_rfl) (by kernel_rfl) (by kernel_rfl) (by kernel_rfl) (fun _ _ _ h => h) (fun w' _ => by kernel_rfl) ⟨rA17, rG17, rC17, trivial⟩ ?_
  simp only [Act.put, List.setIfInBounds_toArray, List.set_cons_zero, List.set_cons_succ]
  refine h_take 32 (.int .i64 0) rfl 66 rfl (by kernel_rfl) (by kernel_rfl) (by kernel_rfl) (by kernel_rfl) (fun _ _ _ h => h) (fun w' _ => by kernel_rfl) ⟨rA17, rG17, rC17, trivial⟩ ?_
  simp only [Act.put, List.setIfInBounds_toArray, List.set_cons_zero, List.set_cons_succ]
  refine h_take 33 (.bool true) rfl 67 rfl (by kernel_rfl) (by kernel_rfl) (by kernel_rfl) (by kernel_rfl) (fun _ _ _ h => h) (fun w' _ => by kernel_rfl) ⟨rA17, rG17, rC17, trivial⟩ ?_
  simp only [Act.put, List.setIfInBounds_toArray, List.set_cons_zero, List.set_cons_succ]
  refine h_take 34 (.bool true) rfl 68 rfl (by kernel_rfl) (by kernel_rfl) (by kernel_rfl) (by kernel_rfl) (fun _ _ _ h => h) (fun w' _ => by kernel_rfl) ⟨rA17, rG17, rC17, trivial⟩ ?_
  simp only [Act.put, List.setIfInBounds_toArray, List.set_cons_zero, List.set_cons_succ]
  refine h_take 35 (.bool true) rfl 69 rfl (by kernel_rfl) (by kernel_rfl) (by kernel_rfl) (by kernel_rfl) (fun _ _ _ h => h) (fun w' _ => by kernel_rfl) ⟨rA17, rG17, rC17, trivial⟩ ?_
  simp only [Act.put, List.setIfInBounds_toArray, List.set_cons_zero, List.set_cons_succ]
  refine h_take 36 (.pointer (some ⟨C, 0, none⟩)) rfl 70 rfl (by kernel_rfl) (by kernel_rfl) (by kernel_rfl) (by kernel_rfl) (fun _ _ _ h => h) (fun w' _ => by kernel_rfl) ⟨rA17, rG17, rC17, trivial⟩ ?_
  simp only [Act.put, List.setIfInBounds_toArray, List.set_cons_zero, List.set_cons_succ]
  refine h_take 37 (.agg (u8s dg).toArray) rfl 71 rfl (by kernel_rfl) (by kernel_rfl) (by kernel_rfl) (by kernel_rfl) (fun _ _ _ h => h) (fun w' hw => run_op_load _ _ rfl C 0 rfl (u8s dg) ((show Has (scs c) 0 (u8s dg) from HPV.out).range hw.2.2.1) (szH KD.out)) ⟨rA17, rG17, rC17, trivial⟩ ?_
  simp only [Act.put, List.setIfInBounds_toArray, List.set_cons_zero, List.set_cons_succ]
  refine h_take 38 (.agg (scs g).toArray) rfl 72 rfl (by kernel_rfl) (by kernel_rfl) (by kernel_rfl) (by kernel_rfl) (fun _ _ _ h => h) (fun w' hw => run_op_load _ _ rfl G 0 rfl (scs g) ((show Has (scs g) 0 (scs g) from Has.refl _).range hw.2.1) (sz_sta GK.out)) ⟨rA17, rG17, rC17, trivial⟩ ?_
  simp only [Act.put, List.setIfInBounds_toArray, List.set_cons_zero, List.set_cons_succ]
  refine h_one (i := 39) (by kernel_rfl) (o_call rfl 73 rfl (by kernel_rfl) (run_op_call 9 _ _ rfl #[.agg (scs g).toArray] (by simp only [List.map_toArray, List.map_cons, List.map_nil]; rfl) Tryd.func9 (by kernel_rfl) (by kernel_rfl) _) (CH.out y17 (HKW.out y17 bel17)) ?_)
  rintro e y18 ⟨rfl, hB⟩
  have rA18 : Row y18 A 35 (scs s) := rA17.old hB
  have rG18 : Row y18 G 35 (scs g) := rG17.old hB
  have rC18 : Row y18 C 35 (scs c) := rC17.old hB
  have bel18 : Below w.heap.size w y18 := below_step bel17 bel17.size hB
  clear hB rA17 rG17 rC17 bel17
  refine ⟨_, rfl, ⟨rA18, rG18, rC18, trivial⟩, ?_⟩
  simp only [Act.put, List.setIfInBounds_toArray, List.set_cons_zero, List.set_cons_succ]
  refine h_take 40 (.bool true) rfl 74 rfl (by kernel_rfl) (by kernel_rfl) (by kernel_rfl) (by kernel_rfl) (fun _ _ _ h => h) (fun w' _ => run_op_eql _ _ _ rfl dg KD.out.len rfl rfl w') ⟨rA18, rG18, rC18, trivial⟩ ?_
  simp only [Act.put, List.setIfInBounds_toArray, List.set_cons_zero, List.set_cons_succ]
  refine h_take 41 (.bool true) rfl 75 rfl (by kernel_rfl) (by kernel_rfl) (by kernel_rfl) (by kernel_rfl) (fun _ _ _ h => h) (fun w' _ => by kernel_rfl) ⟨rA18, rG18, rC18, trivial⟩ ?_
  simp only [Act.put, List.setIfInBounds_toArray, List.set_cons_zero, List.set_cons_succ]
  refine h_take 42 (.bool true) rfl 76 rfl (by kernel_rfl) (by kernel_rfl) (by kernel_rfl) (by kernel_rfl) (fun _ _ _ h => h) (fun w' _ => by kernel_rfl) ⟨rA18, rG18, rC18, trivial⟩ ?_
  simp only [Act.put, List.setIfInBounds_toArray, List.set_cons_zero, List.set_cons_succ]
  refine h_take 43 (.agg (scs s).toArray) rfl 77 rfl (by kernel_rfl) (by kernel_rfl) (by kernel_rfl) (by kernel_rfl) (fun _ _ _ h => h) (fun w' hw => run_op_load _ _ rfl A 0 rfl (scs s) ((show Has (scs s) 0 (scs s) from Has.refl _).range hw.1) (sz_sta KS.out)) ⟨rA18, rG18, rC18, trivial⟩ ?_
  simp only [Act.put, List.setIfInBounds_toArray, List.set_cons_zero, List.set_cons_succ]
  refine h_one (i := 44) (by kernel_rfl) (o_call rfl 78 rfl (by kernel_rfl) (run_op_call 7 _ _ rfl #[.agg (scs s).toArray] (by simp only [List.map_toArray, List.map_cons, List.map_nil]; rfl) Tryd.func7 (by kernel_rfl) (by kernel_rfl) _) (CR.out y18) ?_)
  rintro e y19 ⟨rfl, hB⟩
  have rA19 : Row y19 A 35 (scs s) := rA18.old hB
  have rG19 : Row y19 G 35 (scs g) := rG18.old hB
  have rC19 : Row y19 C 35 (scs c) := rC18.old hB
  have bel19 : Below w.heap.size w y19 := below_step bel18 bel18.size hB
  clear hB rA18 rG18 rC18 bel18
  refine ⟨_, rfl, ⟨rA19, rG19, rC19, trivial⟩, ?_⟩
  simp only [Act.put, List.setIfInBounds_toArray, List.set_cons_zero, List.set_cons_succ]
  refine h_take 45 (.bool true) rfl 79 rfl (by kernel_rfl) (by kernel_rfl) (by kernel_rfl) (by kernel_rfl) (fun _ _ _ h => h) (fun w' _ => by kernel_rfl) ⟨rA19, rG19, rC19, trivial⟩ ?_
  simp only [Act.put, List.setIfInBounds_toArray, List.set_cons_zero, List.set_cons_succ]
  refine h_take 46 (.bool true) rfl 0 rfl (by kernel_rfl) (by kernel_rfl) (by kernel_rfl) (by kernel_rfl) (fun _ _ _ h => h) (fun w' _ => by kernel_rfl) ⟨rA19, rG19, rC19, trivial⟩ ?_
  simp only [Act.put, List.setIfInBounds_toArray, List.set_cons_zero, List.set_cons_succ]
  refine wpAnyH_done (by kernel_rfl) ?_ _
  go_wp2_with fail
  go_ret
  exact ⟨rfl, bel19⟩
end Go.Proofs.YtmohlcmhogbkjaaDoor.Gr
