/-
  The contract of layer 11's awake: the calls whose answers the document fixes answer so: it returns true. Over this seat's translation.
-/
import Derived.Test.YtphbpndjebfacaaDoorLnkLine
import Derived.Test.YtphbpndjebfacaaDoorStaDo
import Derived.Test.YtphbpndjebfacaaDoorCmp
namespace Go.Proofs.YtphbpndjebfacaaDoor.Lk
open Go.ChangeShapes Go.WideShapes Go.ChangeAt Go.RowKit Go.Proofs.YtphbpndjebfacaaDoor.Mem Go.Proofs.YtphbpndjebfacaaDoor.Bt Go.Proofs.YtphbpndjebfacaaDoor.Rg Go.Proofs.YtphbpndjebfacaaDoor.Wn Go.Proofs.YtphbpndjebfacaaDoor.Sa Go.Proofs.YtphbpndjebfacaaDoor.Sha Go.Proofs.YtphbpndjebfacaaDoor.Gr Go.Proofs.YtphbpndjebfacaaDoor.Sl
open Go.Proofs.YtphbpndjebfacaaDoor.Ep (H32 Dat Blk zh zh_ok num32 zd zd_ok Has h_len one_app one_num szH zH fitH allH)
set_option linter.unusedVariables false
set_option linter.unusedSimpArgs false

/-- A digest of one byte, and zeros. -/
def hn (n : Nat) : List Nat := n :: List.replicate 31 0
theorem hn_ok {n : Nat} (h : n < 256) : H32 (hn n) := ⟨by unfold hn; simp, fun x hx => by
  unfold hn at hx
  rcases List.mem_cons.1 hx with rfl | hx
  · exact h
  · have := List.eq_of_mem_replicate hx; omega⟩
def aw3 : Gb := ⟨3, zh, zh⟩
def aw9 : Gb := ⟨9, zh, zh⟩
theorem aw3_ok : aw3.Ok := ⟨(by decide : 3 < 4294967296), zh_ok, zh_ok⟩
theorem aw9_ok : aw9.Ok := ⟨(by decide : 9 < 4294967296), zh_ok, zh_ok⟩
theorem gbOf_ch {s : Sta} {b : Gb} (h : chE s b = 0) : gbOf (chS s b) = b := by rw [chS_fine (chE_zero.1 h)]; rfl
/-- Each child follows its parent. -/
theorem fol_child {s : Sta} {b : Gb} (h : chE s b = 0) : folE s (chS s b) = 0 := folE_yes (by rw [gbOf_ch h]; exact h) (by rw [gbOf_ch h])
theorem len_child {s : Sta} {b : Gb} (h : chE s b = 0) : (chS s b).len = s.len + 1 := by rw [chS_fine (chE_zero.1 h), grown_fine (chE_zero.1 h)]
structure AwkIs (g a b : Sta) : Prop where
  ga : chE g aw3 = 0 ∧ chS g aw3 = a
  ab : chE a aw9 = 0 ∧ chS a aw9 = b
  f1 : folE g a = 0
  f2 : folE a b = 0
  f3 : folE g b = 7
  f4 : folE b a = 6
  ka : H32 g.led → g.Ok → a.Ok ∧ b.Ok
  ra : SRt a ∧ SRt b
theorem awk_is (y : List Nat) : ∃ a b, AwkIs (genS y) a b := by
  have n0 : nsOf (genS y) = ⟨0, 1, 0, 12, 0, [1, 3, 3, 3], 1⟩ := rfl
  have f1 : Fine (genS y) aw3 := fine_of (by rw [n0]; decide)
  have e1 : nsOf (chS (genS y) aw3) = stepN ⟨0, 1, 0, 12, 0, [1, 3, 3, 3], 1⟩ 3 := by rw [ns_step f1, n0]; rfl
  have f2 : Fine (chS (genS y) aw3) aw9 := fine_of (by rw [e1]; decide)
  have e2 : nsOf (chS (chS (genS y) aw3) aw9) = stepN (stepN ⟨0, 1, 0, 12, 0, [1, 3, 3, 3], 1⟩ 3) 9 := by rw [ns_step f2, e1]; rfl
  have f3 : Fine (genS y) aw9 := fine_of (by rw [n0]; decide)
  have z1 := chE_zero.2 f1; have z2 := chE_zero.2 f2; have z3 := chE_zero.2 f3
  have r1 := chS_right (gen_right y) z1
  refine ⟨_, _, ⟨z1, rfl⟩, ⟨z2, rfl⟩, fol_child z1, fol_child z2, folE_no (by rw [gbOf_ch z2]; exact z3) (fun e => ?_), ?_, fun hy hg => ⟨chS_ok hg (gen_right y) aw3_ok, chS_ok (chS_ok hg (gen_right y) aw3_ok) r1 aw9_ok⟩, r1, chS_right r1 z2⟩
  · rw [gbOf_ch z2] at e
    have l1 := len_child z3; have l2 := len_child z2; have l3 := len_child z1
    rw [e] at l1
    omega
  · have hb : chE (chS (chS (genS y) aw3) aw9) (gbOf (chS (genS y) aw3)) = 6 := by
      rw [gbOf_ch z1]
      exact chE_slot (by rw [show (chS (chS (genS y) aw3) aw9).slot = 9 from congrArg Ns.slot e2]; decide)
    rw [folE_bad (by rw [hb]; decide), hb]
set_option maxHeartbeats 4000000 in
set_option maxRecDepth 100000 in
theorem awake_any (w : World) (hk : w.rangeAt 0 0 (u32s ks)) :
    Calls Tryd.prog 6 #[] w fun e w' => e = .returned (.bool true) ∧ Below w.heap.size w w' := by
  have hk1 : 0 < w.heap.size := range_lt hk (by simp [u32s, ks])
  have HKW : Hid (∀ w', Below w.heap.size w w' → w'.rangeAt 0 0 (u32s ks)) := Lib.hid fun w' hb => range_block hk (hb.block _ hk1)
  clear hk hk1
  obtain ⟨y, hy⟩ : ∃ y, y = hn 1 := ⟨_, rfl⟩
  have BY := Lib.hid (show Tryd.prog.built 23 [(0, .int .u8 1)] = some (u8s y).toArray by rw [hy]; kernel_rfl)
  have KY := Lib.hid (show H32 y by rw [hy]; exact hn_ok (by decide))
  clear hy
  have B3 := Lib.hid (show Tryd.prog.built 57 [(0, .int .u32 3)] = some (gcs aw3).toArray by kernel_rfl)
  have B9 := Lib.hid (show Tryd.prog.built 57 [(0, .int .u32 9)] = some (gcs aw9).toArray by kernel_rfl)
  obtain ⟨a, b, ⟨ga, ga'⟩, ⟨ab, ab'⟩, f1, f2, f3, f4, ka, ra, rb⟩ := awk_is y
  have CG := Lib.hid (fun w0 => sgenesis_any y w0 KY.out)
  have GK := Lib.hid (gen_ok KY.out)
  have gr := gen_right y
  obtain ⟨kAa, kBb⟩ := ka KY.out GK.out
  have KA := Lib.hid kAa; have KB := Lib.hid kBb
  have C1 := Lib.hid (fun w0 h => child_any (genS y) aw3 w0 GK.out gr aw3_ok h)
  rw [ga, ga'] at C1
  have C2 := Lib.hid (fun w0 h => child_any a aw9 w0 kAa ra aw9_ok h)
  rw [ab, ab'] at C2
  have F1 := Lib.hid (fun w0 h => follows_any (genS y) a w0 GK.out gr kAa h)
  rw [f1] at F1
  have F2 := Lib.hid (fun w0 h => follows_any a b w0 kAa ra kBb h)
  rw [f2] at F2
  have F3 := Lib.hid (fun w0 h => follows_any (genS y) b w0 GK.out gr kBb h)
  rw [f3] at F3
  have F4 := Lib.hid (fun w0 h => follows_any b a w0 kBb rb kAa h)
  rw [f4] at F4
  have HL1 : lineF [genS y, a, b] = (3, 0) := by show lineN (genS y) 1 [a, b] = _; rw [lineN_cons, if_pos f1, lineN_cons, if_pos f2, lineN_nil]
  have HL2 : lineF [genS y, b] = (1, 7) := by show lineN (genS y) 1 [b] = _; rw [lineN_cons, if_neg (by rw [f3]; decide), f3]
  have CL1 : Hid (∀ w0 Q, At kS w0 (some ⟨Q, 0, none⟩) [genS y, a, b] → w0.rangeAt 0 0 (u32s ks) → Calls Tryd.prog 11 #[.slice (some ⟨Q, 0, none⟩) 3 3] w0 fun e w' => e = .returned (.tuple #[.int .i64 3, .int .i64 0]) ∧ Below w0.heap.size w0 w') := Lib.hid fun w0 Q h hk => by
    have c := line_any [genS y, a, b] (some ⟨Q, 0, none⟩) 3 w0 h (fun t r e => by obtain rfl : genS y = t := (List.cons.inj e).1; exact gr) (by simp) hk
    rw [HL1] at c
    exact c
  have CL2 : Hid (∀ w0 Q, At kS w0 (some ⟨Q, 0, none⟩) [genS y, b] → w0.rangeAt 0 0 (u32s ks) → Calls Tryd.prog 11 #[.slice (some ⟨Q, 0, none⟩) 2 2] w0 fun e w' => e = .returned (.tuple #[.int .i64 1, .int .i64 7]) ∧ Below w0.heap.size w0 w') := Lib.hid fun w0 Q h hk => by
    have c := line_any [genS y, b] (some ⟨Q, 0, none⟩) 2 w0 h (fun t r e => by obtain rfl : genS y = t := (List.cons.inj e).1; exact gr) (by simp) hk
    rw [HL2] at c
    exact c
  generalize genS y = g at CG GK C1 F1 F3 CL1 CL2
  have O3 : Hid (kS.AllOk [g, a, b]) := Lib.hid (allOk_cons GK.out (allOk_cons KA.out (allOk_cons KB.out allOk_nil)))
  have O2 : Hid (kS.AllOk [g, b]) := Lib.hid (allOk_cons GK.out (allOk_cons KB.out allOk_nil))
  clear ga ga' ab ab' f1 f2 f3 f4 ka ra rb gr kAa kBb HL1 HL2
  go_enter Tryd.func6, Tryd.ntmps6
  go_wp2_with (first
    | ((with_reducible refine at_slot 10 ?_); (refine arm_build (o := ⟨some 10, _, _, _, _, _⟩) rfl _ _ rfl (u8s y) (by simp only [List.map_toArray, List.map_cons, List.map_nil]; exact BY.out) ?_)))
  refine (CG.out _).mono ?_
  rintro e y1 ⟨rfl, hB⟩
  have bel1 : Below w.heap.size w y1 := hB
  skip
  go_wp2_with (first
    | ((with_reducible refine at_slot 1 ?_); (refine arm_alloc (o := ⟨some 1, _, _, _, _, _⟩) rfl _ rfl (scs zs) z_sta ?_); intro G v2 Ge hv2 nv2)
    | ((with_reducible refine arm_store (o := ⟨none, _, _, _, _, _⟩) rfl _ _ _ rfl G 0 rfl (scs g) rfl _ _ (hv2) (fitS GK.out) (scs_one _) (sz_sta GK.out) ?_); intro v3 hv3 ov3 sv3)
    | ((with_reducible refine at_slot 13 ?_); (refine arm_load (o := ⟨some 13, _, _, _, _, _⟩) rfl _ _ rfl G 0 rfl (scs g) ((show Has (scs g) 0 (scs g) from Has.refl _).range ((hv3.congr (allS GK.out)))) (sz_sta GK.out) ?_))
    | ((with_reducible refine at_slot 14 ?_); (refine arm_build (o := ⟨some 14, _, _, _, _, _⟩) rfl _ _ rfl (gcs aw3) (by simp only [List.map_toArray, List.map_cons, List.map_nil]; exact B3.out) ?_)))
  have q0 := Ge.out
  have q1 := nv2.size
  have q2 := sv3.out
  have q3 := bel1.size
  have lG : w.heap.size ≤ G := by omega
  have rG4 : Row v3 G 35 (scs g) := (hv3.congr (allS GK.out))
  have bel4 : Below w.heap.size w v3 := (below_only (below_step bel1 (by omega) nv2.below) ov3 lG (by omega))
  clear q0 q1 q2 q3 bel1 Ge hv2 nv2 hv3 ov3 sv3
  refine (C1.out _ (HKW.out _ bel4)).mono ?_
  rintro e y5 ⟨rfl, hB⟩
  have rG5 : Row y5 G 35 (scs g) := rG4.old hB
  have bel5 : Below w.heap.size w y5 := below_step bel4 bel4.size hB
  clear hB rG4 bel4
  go_wp2_with (first
    | ((with_reducible refine at_slot 2 ?_); (refine arm_alloc (o := ⟨some 2, _, _, _, _, _⟩) rfl _ rfl (scs zs) z_sta ?_); intro X v6 Xe hv6 nv6)
    | ((with_reducible refine arm_store (o := ⟨none, _, _, _, _, _⟩) rfl _ _ _ rfl X 0 rfl (scs a) rfl _ _ (hv6) (fitS KA.out) (scs_one _) (sz_sta KA.out) ?_); intro v7 hv7 ov7 sv7)
    | ((with_reducible refine at_slot 19 ?_); (refine arm_load (o := ⟨some 19, _, _, _, _, _⟩) rfl _ _ rfl X 0 rfl (scs a) ((show Has (scs a) 0 (scs a) from Has.refl _).range ((hv7.congr (allS KA.out)))) (sz_sta KA.out) ?_))
    | ((with_reducible refine at_slot 20 ?_); (refine arm_build (o := ⟨some 20, _, _, _, _, _⟩) rfl _ _ rfl (gcs aw9) (by simp only [List.map_toArray, List.map_cons, List.map_nil]; exact B9.out) ?_)))
  have q0 := Xe.out
  have q1 := nv6.size
  have q2 := sv7.out
  have q3 := rG5.lt
  have q4 := bel5.size
  have lX : w.heap.size ≤ X := by omega
  have nGX : G ≠ X := by omega
  have nXG : X ≠ G := by omega
  have rG8 : Row v7 G 35 (scs g) := ((rG5.old nv6.below).only ov7 nGX)
  have rX8 : Row v7 X 35 (scs a) := (hv7.congr (allS KA.out))
  have bel8 : Below w.heap.size w v7 := (below_only (below_step bel5 (by omega) nv6.below) ov7 lX (by omega))
  clear q0 q1 q2 q3 q4 rG5 bel5 Xe hv6 nv6 hv7 ov7 sv7
  refine (C2.out _ (HKW.out _ bel8)).mono ?_
  rintro e y9 ⟨rfl, hB⟩
  have rG9 : Row y9 G 35 (scs g) := rG8.old hB
  have rX9 : Row y9 X 35 (scs a) := rX8.old hB
  have bel9 : Below w.heap.size w y9 := below_step bel8 bel8.size hB
  clear hB rG8 rX8 bel8
  go_wp2_with (first
    | ((with_reducible refine at_slot 4 ?_); (refine arm_alloc (o := ⟨some 4, _, _, _, _, _⟩) rfl _ rfl (scs zs) z_sta ?_); intro Y v10 Ye hv10 nv10)
    | ((with_reducible refine arm_store (o := ⟨none, _, _, _, _, _⟩) rfl _ _ _ rfl Y 0 rfl (scs b) rfl _ _ (hv10) (fitS KB.out) (scs_one _) (sz_sta KB.out) ?_); intro v11 hv11 ov11 sv11)
    | ((with_reducible refine at_slot 25 ?_); (refine arm_load (o := ⟨some 25, _, _, _, _, _⟩) rfl _ _ rfl G 0 rfl (scs g) ((show Has (scs g) 0 (scs g) from Has.refl _).range (((rG9.old nv10.below).only ov11 (by have := rG9.lt; have := Ye.out; have := nv10.size; have := sv11.out; omega)))) (sz_sta GK.out) ?_))
    | ((with_reducible refine at_slot 26 ?_); (refine arm_load (o := ⟨some 26, _, _, _, _, _⟩) rfl _ _ rfl X 0 rfl (scs a) ((show Has (scs a) 0 (scs a) from Has.refl _).range (((rX9.old nv10.below).only ov11 (by have := rX9.lt; have := Ye.out; have := nv10.size; have := sv11.out; omega)))) (sz_sta KA.out) ?_))
    | ((with_reducible refine at_slot 27 ?_); (refine arm_load (o := ⟨some 27, _, _, _, _, _⟩) rfl _ _ rfl Y 0 rfl (scs b) ((show Has (scs b) 0 (scs b) from Has.refl _).range ((hv11.congr (allS KB.out)))) (sz_sta KB.out) ?_))
    | ((with_reducible refine at_slot 28 ?_); (refine arm_lit (K := kS) (o := ⟨some 28, _, _, _, _, _⟩) rfl fS [g, a, b] O3.out (by simp) _ _ rfl rfl (by simp only [List.map_toArray, List.map_cons, List.map_nil]; rfl) ?_); intro Q v12 Qe hv12 nv12))
  have q0 := Ye.out
  have q1 := nv10.size
  have q2 := sv11.out
  have q3 := Qe.out
  have q4 := nv12.size
  have q5 := rG9.lt
  have q6 := rX9.lt
  have q7 := bel9.size
  have lY : w.heap.size ≤ Y := by omega
  have nGY : G ≠ Y := by omega
  have nYG : Y ≠ G := by omega
  have nXY : X ≠ Y := by omega
  have nYX : Y ≠ X := by omega
  have lQ : w.heap.size ≤ Q := by omega
  have nGQ : G ≠ Q := by omega
  have nQG : Q ≠ G := by omega
  have nXQ : X ≠ Q := by omega
  have nQX : Q ≠ X := by omega
  have nYQ : Y ≠ Q := by omega
  have nQY : Q ≠ Y := by omega
  have rG13 : Row v12 G 35 (scs g) := (((rG9.old nv10.below).only ov11 nGY).old nv12.below)
  have rX13 : Row v12 X 35 (scs a) := (((rX9.old nv10.below).only ov11 nXY).old nv12.below)
  have rY13 : Row v12 Y 35 (scs b) := ((hv11.congr (allS KB.out)).old nv12.below)
  have rQ13 : Row v12 Q kS.t (kS.all [g, a, b]) := hv12
  have bel13 : Below w.heap.size w v12 := (below_step (below_only (below_step bel9 (by omega) nv10.below) ov11 lY (by omega)) (by omega) nv12.below)
  clear q0 q1 q2 q3 q4 q5 q6 q7 rG9 rX9 bel9 Ye hv10 nv10 hv11 ov11 sv11 Qe hv12 nv12
  refine (CL1.out _ Q (At.row fS O3.out rQ13 (List.append_nil _).symm) (HKW.out _ bel13)).mono ?_
  rintro e y14 ⟨rfl, hB⟩
  have rG14 : Row y14 G 35 (scs g) := rG13.old hB
  have rX14 : Row y14 X 35 (scs a) := rX13.old hB
  have rY14 : Row y14 Y 35 (scs b) := rY13.old hB
  have rQ14 : Row y14 Q kS.t (kS.all [g, a, b]) := rQ13.old hB
  have bel14 : Below w.heap.size w y14 := below_step bel13 bel13.size hB
  clear hB rG13 rX13 rY13 rQ13 bel13
  clear rQ14
  go_wp2_with (first
    | ((with_reducible refine at_slot 33 ?_); (refine arm_load (o := ⟨some 33, _, _, _, _, _⟩) rfl _ _ rfl G 0 rfl (scs g) ((show Has (scs g) 0 (scs g) from Has.refl _).range (rG14)) (sz_sta GK.out) ?_))
    | ((with_reducible refine at_slot 34 ?_); (refine arm_load (o := ⟨some 34, _, _, _, _, _⟩) rfl _ _ rfl Y 0 rfl (scs b) ((show Has (scs b) 0 (scs b) from Has.refl _).range (rY14)) (sz_sta KB.out) ?_))
    | ((with_reducible refine at_slot 35 ?_); (refine arm_lit (K := kS) (o := ⟨some 35, _, _, _, _, _⟩) rfl fS [g, b] O2.out (by simp) _ _ rfl rfl (by simp only [List.map_toArray, List.map_cons, List.map_nil]; rfl) ?_); intro Q v15 Qe hv15 nv15))
  have q0 := Qe.out
  have q1 := nv15.size
  have q2 := rG14.lt
  have q3 := rX14.lt
  have q4 := rY14.lt
  have q5 := bel14.size
  have lQ : w.heap.size ≤ Q := by omega
  have nGQ : G ≠ Q := by omega
  have nQG : Q ≠ G := by omega
  have nXQ : X ≠ Q := by omega
  have nQX : Q ≠ X := by omega
  have nYQ : Y ≠ Q := by omega
  have nQY : Q ≠ Y := by omega
  have rG16 : Row v15 G 35 (scs g) := (rG14.old nv15.below)
  have rX16 : Row v15 X 35 (scs a) := (rX14.old nv15.below)
  have rY16 : Row v15 Y 35 (scs b) := (rY14.old nv15.below)
  have rQ16 : Row v15 Q kS.t (kS.all [g, b]) := hv15
  have bel16 : Below w.heap.size w v15 := (below_step bel14 (by omega) nv15.below)
  clear q0 q1 q2 q3 q4 q5 rG14 rX14 rY14 bel14 Qe hv15 nv15
  refine (CL2.out _ Q (At.row fS O2.out rQ16 (List.append_nil _).symm) (HKW.out _ bel16)).mono ?_
  rintro e y17 ⟨rfl, hB⟩
  have rG17 : Row y17 G 35 (scs g) := rG16.old hB
  have rX17 : Row y17 X 35 (scs a) := rX16.old hB
  have rY17 : Row y17 Y 35 (scs b) := rY16.old hB
  have rQ17 : Row y17 Q kS.t (kS.all [g, b]) := rQ16.old hB
  have bel17 : Below w.heap.size w y17 := below_step bel16 bel16.size hB
  clear hB rG16 rX16 rY16 rQ16 bel16
  clear rQ17
  go_wp2_with (first
    | ((with_reducible refine at_slot 39 ?_); (refine arm_load (o := ⟨some 39, _, _, _, _, _⟩) rfl _ _ rfl G 0 rfl (scs g) ((show Has (scs g) 0 (scs g) from Has.refl _).range (rG17)) (sz_sta GK.out) ?_))
    | ((with_reducible refine at_slot 40 ?_); (refine arm_load (o := ⟨some 40, _, _, _, _, _⟩) rfl _ _ rfl X 0 rfl (scs a) ((show Has (scs a) 0 (scs a) from Has.refl _).range (rX17)) (sz_sta KA.out) ?_)))
  refine (F1.out y17 (HKW.out y17 bel17)).mono ?_
  rintro e y18 ⟨rfl, hB⟩
  have rG18 : Row y18 G 35 (scs g) := rG17.old hB
  have rX18 : Row y18 X 35 (scs a) := rX17.old hB
  have rY18 : Row y18 Y 35 (scs b) := rY17.old hB
  have bel18 : Below w.heap.size w y18 := below_step bel17 bel17.size hB
  clear hB rG17 rX17 rY17 bel17
  go_wp2_with (first
    | ((with_reducible refine at_slot 44 ?_); (refine arm_want (.agg (scs a).toArray) 44 rfl (by kernel_rfl) (run_op_load _ _ rfl X 0 rfl (scs a) ((show Has (scs a) 0 (scs a) from Has.refl _).range (rX18)) ((sz_sta KA.out))) ?_))
    | ((with_reducible refine at_slot 45 ?_); (refine arm_want (.agg (scs b).toArray) 45 rfl (by kernel_rfl) (run_op_load _ _ rfl Y 0 rfl (scs b) ((show Has (scs b) 0 (scs b) from Has.refl _).range (rY18)) ((sz_sta KB.out))) ?_)))
  refine (F2.out y18 (HKW.out y18 bel18)).mono ?_
  rintro e y19 ⟨rfl, hB⟩
  have rG19 : Row y19 G 35 (scs g) := rG18.old hB
  have rX19 : Row y19 X 35 (scs a) := rX18.old hB
  have rY19 : Row y19 Y 35 (scs b) := rY18.old hB
  have bel19 : Below w.heap.size w y19 := below_step bel18 bel18.size hB
  clear hB rG18 rX18 rY18 bel18
  go_wp2_with (first
    | ((with_reducible refine at_slot 50 ?_); (refine arm_want (.agg (scs g).toArray) 50 rfl (by kernel_rfl) (run_op_load _ _ rfl G 0 rfl (scs g) ((show Has (scs g) 0 (scs g) from Has.refl _).range (rG19)) ((sz_sta GK.out))) ?_))
    | ((with_reducible refine at_slot 51 ?_); (refine arm_want (.agg (scs b).toArray) 51 rfl (by kernel_rfl) (run_op_load _ _ rfl Y 0 rfl (scs b) ((show Has (scs b) 0 (scs b) from Has.refl _).range (rY19)) ((sz_sta KB.out))) ?_)))
  refine (F3.out y19 (HKW.out y19 bel19)).mono ?_
  rintro e y20 ⟨rfl, hB⟩
  have rG20 : Row y20 G 35 (scs g) := rG19.old hB
  have rX20 : Row y20 X 35 (scs a) := rX19.old hB
  have rY20 : Row y20 Y 35 (scs b) := rY19.old hB
  have bel20 : Below w.heap.size w y20 := below_step bel19 bel19.size hB
  clear hB rG19 rX19 rY19 bel19
  go_wp2_with (first
    | ((with_reducible refine at_slot 56 ?_); (refine arm_want (.agg (scs b).toArray) 56 rfl (by kernel_rfl) (run_op_load _ _ rfl Y 0 rfl (scs b) ((show Has (scs b) 0 (scs b) from Has.refl _).range (rY20)) ((sz_sta KB.out))) ?_))
    | ((with_reducible refine at_slot 57 ?_); (refine arm_want (.agg (scs a).toArray) 57 rfl (by kernel_rfl) (run_op_load _ _ rfl X 0 rfl (scs a) ((show Has (scs a) 0 (scs a) from Has.refl _).range (rX20)) ((sz_sta KA.out))) ?_)))
  refine (F4.out y20 (HKW.out y20 bel20)).mono ?_
  rintro e y21 ⟨rfl, hB⟩
  have rG21 : Row y21 G 35 (scs g) := rG20.old hB
  have rX21 : Row y21 X 35 (scs a) := rX20.old hB
  have rY21 : Row y21 Y 35 (scs b) := rY20.old hB
  have bel21 : Below w.heap.size w y21 := below_step bel20 bel20.size hB
  clear hB rG20 rX20 rY20 bel20
  go_wp2_with fail
  go_ret
  exact ⟨rfl, bel21⟩
end Go.Proofs.YtphbpndjebfacaaDoor.Lk
