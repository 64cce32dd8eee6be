/-
  The walk of layer 10's statement GrowChain, out of the contracts: it returns true, and changes nothing that was there. Over this seat's translation.
-/
import Derived.Test.YtmohlcmhogbkjaaDoorGroAwake
namespace Go.Proofs.YtmohlcmhogbkjaaDoor.Gr
open Go.ChangeShapes Go.WideShapes Go.ChangeAt Go.RowKit Go.Proofs.YtmohlcmhogbkjaaDoor.Mem Go.Proofs.YtmohlcmhogbkjaaDoor.Bt Go.Proofs.YtmohlcmhogbkjaaDoor.Rg Go.Proofs.YtmohlcmhogbkjaaDoor.Wn Go.Proofs.YtmohlcmhogbkjaaDoor.Sa Go.Proofs.YtmohlcmhogbkjaaDoor.Sha
open Go.Proofs.YtmohlcmhogbkjaaDoor.Ep (H32 Dat Blk zh zh_ok num32 zd zd_ok Has h_len one_app one_num szH zH fitH allH)
set_option linter.unusedVariables false
set_option linter.unusedSimpArgs false

structure GcRel (w : World) (l : List Gb) (qs : Sta) (qn : Nat) (qe : Int) (V R : Nat) (i : Value) (wr : World) : Prop where
  ex : ∃ (k : Nat) (t : Sta), k ≤ l.length ∧ i = .int .i64 k ∧ Row wr V 35 (scs t) ∧ Row wr R 35 (scs qs) ∧ t.Ok ∧ SRt t ∧ chainF t k (l.drop k) = (qs, qn, qe)
  bel : Below w.heap.size w wr
theorem chainF_ok : ∀ (l : List Gb) (t : Sta) (n : Nat), t.Ok → SRt t → AllG l → (chainF t n l).1.Ok
  | [], t, n, k, r, h => k
  | b :: l, t, n, k, r, h => by
    unfold chainF
    split
    · rename_i hz
      exact chainF_ok l _ _ (chS_ok k r (h b (by simp))) (chS_right r hz) (fun c hc => h c (by simp [hc]))
    · exact k
set_option maxHeartbeats 4000000 in
set_option maxRecDepth 100000 in
theorem growChain_any (x : List Nat) (l : List Gb) (p : Option Addr) (pc : Nat) (w : World) (kx : H32 x) (hs : Gbs w p l) (hk : w.rangeAt 1 0 (u32s ks)) :
    Calls Tryd.prog 4 #[.agg (u8s x).toArray, .slice p l.length pc] w fun e w' => e = .returned (.bool true) ∧ Below w.heap.size w w' := by
  have hk1 : 1 < w.heap.size := range_lt hk (by simp [u32s, ks])
  have HKW : Hid (∀ w', Below w.heap.size w w' → w'.rangeAt 1 0 (u32s ks)) := Lib.hid fun w' hb => range_block hk (hb.block _ hk1)
  have KX := Lib.hid kx; have HS := Lib.hid hs
  have CA := Lib.hid (fun w0 h => awake_any w0 h)
  by_cases hbig : 60 < l.length
  · have hbd : decide ((60 : Int) < (l.length : Int)) = true := decide_eq_true (by omega)
    have hbd2 : decide (60 < l.length) = true := decide_eq_true hbig
    clear kx hs hk hk1 HS
    go_enter Tryd.func4, Tryd.ntmps4
    go_wp2_with (first
      | ((with_reducible refine at_slot 2 ?_); (refine arm_box (o := ⟨some 2, _, _, _, _, _⟩) rfl _ _ rfl (u8s x) rfl ?_); intro X v1 Xe hv1 nv1))
    have q0 := Xe.out
    have q1 := nv1.size
    have lX : w.heap.size ≤ X := by omega
    have rX2 : Row v1 X 23 (u8s x) := hv1
    have bel2 : Below w.heap.size w v1 := (below_step (Below.refl _ _) (by omega) nv1.below)
    clear q0 q1 Xe hv1 nv1
    refine (CA.out _ (HKW.out _ bel2)).mono ?_
    rintro e y3 ⟨rfl, hB⟩
    have rX3 : Row y3 X 23 (u8s x) := rX2.old hB
    have bel3 : Below w.heap.size w y3 := below_step bel2 bel2.size hB
    clear hB rX2 bel2
    go_wp2_with fail
    go_ret
    exact ⟨rfl, bel3⟩
  · have hbd : decide ((60 : Int) < (l.length : Int)) = false := decide_eq_false (by omega)
    have hbd2 : decide (60 < l.length) = false := decide_eq_false hbig
    have CG := Lib.hid (fun w0 => sgenesis_any x w0 kx)
    have GK := Lib.hid (gen_ok kx)
    have GR := Lib.hid (gen_right x)
    have CC := Lib.hid (fun w0 h => chain_any x l p pc w0 kx h (by omega))
    have KQ := Lib.hid (chainF_ok l (genS x) 0 (gen_ok kx) (gen_right x) hs.ok)
    obtain ⟨g, hg⟩ : ∃ g, g = genS x := ⟨_, rfl⟩
    rw [← hg] at CG GK GR CC KQ
    have hq : chainF g 0 (l.drop 0) = chainF g 0 l := by rw [List.drop_zero]
    generalize chainF g 0 l = q at CC KQ hq
    obtain ⟨qs, qn, qe⟩ := q
    have HQ := Lib.hid hq
    replace KQ : Hid qs.Ok := KQ
    replace CC : Hid (∀ w0, Gbs w0 p l → w0.rangeAt 1 0 (u32s ks) → Calls Tryd.prog 10 #[.agg (u8s x).toArray, .slice p l.length pc] w0 fun e w' => e = .returned (.tuple #[.agg (scs qs).toArray, .int .i64 (qn : Int), .int .i64 qe]) ∧ Below w0.heap.size w0 w') := CC
    clear hq hg kx hs hk hk1
    go_enter Tryd.func4, Tryd.ntmps4
    go_wp2_with (first
      | ((with_reducible refine at_slot 2 ?_); (refine arm_box (o := ⟨some 2, _, _, _, _, _⟩) rfl _ _ rfl (u8s x) rfl ?_); intro X v1 Xe hv1 nv1))
    have q0 := Xe.out
    have q1 := nv1.size
    have lX : w.heap.size ≤ X := by omega
    have rX2 : Row v1 X 23 (u8s x) := hv1
    have bel2 : Below w.heap.size w v1 := (below_step (Below.refl _ _) (by omega) nv1.below)
    clear q0 q1 Xe hv1 nv1
    refine (CA.out _ (HKW.out _ bel2)).mono ?_
    rintro e y3 ⟨rfl, hB⟩
    have rX3 : Row y3 X 23 (u8s x) := rX2.old hB
    have bel3 : Below w.heap.size w y3 := below_step bel2 bel2.size hB
    clear hB rX2 bel2
    go_wp2_with (first
      | ((with_reducible refine at_slot 19 ?_); (refine arm_load (o := ⟨some 19, _, _, _, _, _⟩) rfl _ _ rfl X 0 rfl (u8s x) ((show Has (u8s x) 0 (u8s x) from Has.refl _).range (rX3)) (szH KX.out) ?_)))
    refine (CC.out _ (HS.out.below bel3) (HKW.out _ bel3)).mono ?_
    rintro e y4 ⟨rfl, hB⟩
    have rX4 : Row y4 X 23 (u8s x) := rX3.old hB
    have bel4 : Below w.heap.size w y4 := below_step bel3 bel3.size hB
    clear hB rX3 bel3
    go_wp2_with (first
      | ((with_reducible refine at_slot 5 ?_); (refine arm_alloc (o := ⟨some 5, _, _, _, _, _⟩) rfl _ rfl (scs zs) z_sta ?_); intro R v5 Re hv5 nv5)
      | ((with_reducible refine arm_store (o := ⟨none, _, _, _, _, _⟩) rfl _ _ _ rfl R 0 rfl (scs qs) rfl _ _ (hv5) (fitS KQ.out) (scs_one _) (sz_sta KQ.out) ?_); intro v6 hv6 ov6 sv6)
      | ((with_reducible refine at_slot 25 ?_); (refine arm_load (o := ⟨some 25, _, _, _, _, _⟩) rfl _ _ rfl X 0 rfl (u8s x) ((show Has (u8s x) 0 (u8s x) from Has.refl _).range (((rX4.old nv5.below).only ov6 (by have := rX4.lt; have := Re.out; have := nv5.size; have := sv6.out; omega)))) (szH KX.out) ?_)))
    have q0 := Re.out
    have q1 := nv5.size
    have q2 := sv6.out
    have q3 := rX4.lt
    have q4 := bel4.size
    have lR : w.heap.size ≤ R := by omega
    have nXR : X ≠ R := by omega
    have nRX : R ≠ X := by omega
    have rX7 : Row v6 X 23 (u8s x) := ((rX4.old nv5.below).only ov6 nXR)
    have rR7 : Row v6 R 35 (scs qs) := (hv6.congr (allS KQ.out))
    have bel7 : Below w.heap.size w v6 := (below_only (below_step bel4 (by omega) nv5.below) ov6 lR (by omega))
    clear q0 q1 q2 q3 q4 rX4 bel4 Re hv5 nv5 hv6 ov6 sv6
    clear rX7
    refine (CG.out _).mono ?_
    rintro e y8 ⟨rfl, hB⟩
    have rR8 : Row y8 R 35 (scs qs) := rR7.old hB
    have bel8 : Below w.heap.size w y8 := below_step bel7 bel7.size hB
    clear hB rR7 bel7
    go_wp2_with (first
      | ((with_reducible refine at_slot 8 ?_); (refine arm_alloc (o := ⟨some 8, _, _, _, _, _⟩) rfl _ rfl (scs zs) z_sta ?_); intro V v9 Ve hv9 nv9)
      | ((with_reducible refine arm_store (o := ⟨none, _, _, _, _, _⟩) rfl _ _ _ rfl V 0 rfl (scs g) rfl _ _ (hv9) (fitS GK.out) (scs_one _) (sz_sta GK.out) ?_); intro v10 hv10 ov10 sv10))
    have q0 := Ve.out
    have q1 := nv9.size
    have q2 := sv10.out
    have q3 := rR8.lt
    have q4 := bel8.size
    have lV : w.heap.size ≤ V := by omega
    have nRV : R ≠ V := by omega
    have nVR : V ≠ R := by omega
    have rR11 : Row v10 R 35 (scs qs) := ((rR8.old nv9.below).only ov10 nRV)
    have rV11 : Row v10 V 35 (scs g) := (hv10.congr (allS GK.out))
    have bel11 : Below w.heap.size w v10 := (below_only (below_step bel8 (by omega) nv9.below) ov10 lV (by omega))
    clear q0 q1 q2 q3 q4 rR8 bel8 Ve hv9 nv9 hv10 ov10 sv10
    have h0 : GcRel w l qs qn qe V R (.int .i64 0) v10 := ⟨⟨0, g, by omega, rfl, rV11, rR11, GK.out, GR.out, HQ.out⟩, bel11⟩
    clear rV11 rR11 bel11 CG HQ CA CC
    go_loopw [29] (fun i wr => GcRel w l qs qn qe V R i wr) (fun i _ => l.length - (intOf i).toNat)
    case atStart => exact h0
    case round =>
      clear h0
      obtain ⟨⟨k, t, hk, rfl, rV, rR, kt, rt, hch⟩, bel⟩ := hrel
      have KT := Lib.hid kt; have RT := Lib.hid rt; have HCH := Lib.hid hch
      clear kt rt hch
      by_cases hlt : k < l.length
      · obtain ⟨b, hb⟩ : ∃ b, l[k]? = some b := ⟨_, List.getElem?_eq_getElem hlt⟩
        obtain ⟨gg, go, hP, hgl, hrs⟩ := HS.out.at_ k b hb
        have KB := Lib.hid (HS.out.ok.get hb)
        subst hP
        have RS := Lib.hid hrs
        have HB := Lib.hid hb
        clear hb hrs
        have ik : (k : Int) < (l.length : Int) := by omega
        have CC := Lib.hid (fun w0 h => child_any t b w0 KT.out RT.out KB.out h)
        have KC := Lib.hid (chS_ok KT.out RT.out KB.out)
        have HGO : Hid (chE t b = 0 → SRt (chS t b) ∧ chainF (chS t b) (k + 1) (l.drop (k + 1)) = (qs, qn, qe)) := Lib.hid fun h => ⟨chS_right RT.out h, by rw [← chain_go HB.out h]; exact HCH.out⟩
        have HST : Hid (chE t b ≠ 0 → (t, k, chE t b) = (qs, qn, qe)) := Lib.hid fun h => by rw [← chain_stop HB.out h]; exact HCH.out
        generalize chS t b = c at CC KC HGO
        generalize chE t b = z at CC HGO HST
        go_wp2_with (first
          | ((with_reducible refine at_slot 32 ?_); (refine arm_indexN (o := ⟨some 32, _, _, _, _, _⟩) rfl _ _ _ rfl 37 65 und_gbs (by kernel_rfl) gg go (l.length) pc rfl .i64 k rfl hlt ?_))
          | ((with_reducible refine at_slot 33 ?_); (refine arm_load (o := ⟨some 33, _, _, _, _, _⟩) rfl _ _ rfl gg (go + k * 65) rfl (gcs b) (range_block RS.out (bel.block gg hgl)) (sz_gb KB.out) ?_))
          | ((with_reducible refine at_slot 10 ?_); (refine arm_alloc (o := ⟨some 10, _, _, _, _, _⟩) rfl _ rfl (gcs zg) z_gb ?_); intro N v101 Ne hv101 nv101)
          | ((with_reducible refine arm_store (o := ⟨none, _, _, _, _, _⟩) rfl _ _ _ rfl N 0 rfl (gcs b) rfl _ _ (hv101) (fitG KB.out) (gcs_one _) (sz_gb KB.out) ?_); intro v102 hv102 ov102 sv102)
          | ((with_reducible refine at_slot 35 ?_); (refine arm_load (o := ⟨some 35, _, _, _, _, _⟩) rfl _ _ rfl V 0 rfl (scs t) ((show Has (scs t) 0 (scs t) from Has.refl _).range (((rV.old nv101.below).only ov102 (by have := rV.lt; have := Ne.out; have := nv101.size; have := sv102.out; omega)))) (sz_sta KT.out) ?_))
          | ((with_reducible refine at_slot 36 ?_); (refine arm_load (o := ⟨some 36, _, _, _, _, _⟩) rfl _ _ rfl N 0 rfl (gcs b) ((show Has (gcs b) 0 (gcs b) from Has.refl _).range ((hv102.congr (allG KB.out)))) (sz_gb KB.out) ?_)))
        have q0 := Ne.out
        have q1 := nv101.size
        have q2 := sv102.out
        have q3 := rV.lt
        have q4 := rR.lt
        have q5 := bel.size
        have lN : w.heap.size ≤ N := by omega
        have nVN : V ≠ N := by omega
        have nNV : N ≠ V := by omega
        have nRN : R ≠ N := by omega
        have nNR : N ≠ R := by omega
        have rV103 : Row v102 V 35 (scs t) := ((rV.old nv101.below).only ov102 nVN)
        have rR103 : Row v102 R 35 (scs qs) := ((rR.old nv101.below).only ov102 nRN)
        have rN103 : Row v102 N 37 (gcs b) := (hv102.congr (allG KB.out))
        have bel103 : Below w.heap.size w v102 := (below_only (below_step bel (by omega) nv101.below) ov102 lN (by omega))
        clear q0 q1 q2 q3 q4 q5 rV rR bel Ne hv101 nv101 hv102 ov102 sv102
        refine (CC.out _ (HKW.out _ bel103)).mono ?_
        rintro e y104 ⟨rfl, hB⟩
        have rV104 : Row y104 V 35 (scs t) := rV103.old hB
        have rR104 : Row y104 R 35 (scs qs) := rR103.old hB
        have rN104 : Row y104 N 37 (gcs b) := rN103.old hB
        have bel104 : Below w.heap.size w y104 := below_step bel103 bel103.size hB
        clear hB rV103 rR103 rN103 bel103
        clear rN104
        by_cases hz : z = 0
        · obtain rfl := hz
          have HG2 := Lib.hid (HGO.out rfl)
          clear HGO HST
          go_wp2_with (first
            | ((with_reducible refine at_slot 11 ?_); (refine arm_alloc (o := ⟨some 11, _, _, _, _, _⟩) rfl _ rfl (scs zs) z_sta ?_); intro C v105 Ce hv105 nv105)
            | ((with_reducible refine arm_store (o := ⟨none, _, _, _, _, _⟩) rfl _ _ _ rfl C 0 rfl (scs c) rfl _ _ (hv105) (fitS KC.out) (scs_one _) (sz_sta KC.out) ?_); intro v106 hv106 ov106 sv106)
            | ((with_reducible refine at_slot 55 ?_); (refine arm_load (o := ⟨some 55, _, _, _, _, _⟩) rfl _ _ rfl C 0 rfl (scs c) ((show Has (scs c) 0 (scs c) from Has.refl _).range ((hv106.congr (allS KC.out)))) (sz_sta KC.out) ?_))
            | ((with_reducible refine arm_store (o := ⟨none, _, _, _, _, _⟩) rfl _ _ _ rfl V 0 rfl (scs c) rfl _ _ (((rV104.old nv105.below).only ov106 (by have := rV104.lt; have := Ce.out; have := nv105.size; have := sv106.out; omega))) (by rw [scs_len KC.out, scs_len KT.out]; omega) (scs_one _) (sz_sta KC.out) ?_); intro v107 hv107 ov107 sv107))
          have q0 := Ce.out
          have q1 := nv105.size
          have q2 := sv106.out
          have q3 := sv107.out
          have q4 := rV104.lt
          have q5 := rR104.lt
          have q6 := bel104.size
          have lC : w.heap.size ≤ C := by omega
          have nVC : V ≠ C := by omega
          have nCV : C ≠ V := by omega
          have nRC : R ≠ C := by omega
          have nCR : C ≠ R := by omega
          have rV108 : Row v107 V 35 (scs c) := (hv107.congr (lay_all _ _ (by rw [scs_len KC.out, scs_len KT.out])))
          have rR108 : Row v107 R 35 (scs qs) := (((rR104.old nv105.below).only ov106 nRC).only ov107 nRV)
          have rC108 : Row v107 C 35 (scs c) := ((hv106.congr (allS KC.out)).only ov107 nCV)
          have bel108 : Below w.heap.size w v107 := (below_only (below_only (below_step bel104 (by omega) nv105.below) ov106 lC (by omega)) ov107 lV (by omega))
          clear q0 q1 q2 q3 q4 q5 q6 rV104 rR104 bel104 Ce hv105 nv105 hv106 ov106 sv106 hv107 ov107 sv107
          go_roundw
          case rel => exact ⟨⟨k + 1, c, by omega, by go_num, rV108, rR108, KC.out, HG2.out.1, HG2.out.2⟩, bel108⟩
          case measure => simp [intOf]; omega
        · have hz1 : (z == 0) = false := beq_eq_false_iff_ne.2 hz
          have hz2 : (z != 0) = true := bne_iff_ne.2 hz
          have hg2 := HST.out hz
          have HQT : Hid (scs qs = scs t) := Lib.hid (by have : t = qs := congrArg Prod.fst hg2; rw [this])
          have HQN : Hid (decide ((qn : Int) = (k : Int)) = true) := Lib.hid (decide_eq_true (by have : k = qn := congrArg (fun y => y.2.1) hg2; omega))
          have HQE : Hid (decide (qe = z) = true) := Lib.hid (decide_eq_true (congrArg (fun y => y.2.2) hg2).symm)
          clear HGO HST hz hg2
          go_wp2_with (first
            | ((with_reducible refine at_slot 11 ?_); (refine arm_alloc (o := ⟨some 11, _, _, _, _, _⟩) rfl _ rfl (scs zs) z_sta ?_); intro C v105 Ce hv105 nv105)
            | ((with_reducible refine arm_store (o := ⟨none, _, _, _, _, _⟩) rfl _ _ _ rfl C 0 rfl (scs c) rfl _ _ (hv105) (fitS KC.out) (scs_one _) (sz_sta KC.out) ?_); intro v106 hv106 ov106 sv106)
            | ((with_reducible refine at_slot 42 ?_); (refine arm_load (o := ⟨some 42, _, _, _, _, _⟩) rfl _ _ rfl R 0 rfl (scs qs) ((show Has (scs qs) 0 (scs qs) from Has.refl _).range (((rR104.old nv105.below).only ov106 (by have := rR104.lt; have := Ce.out; have := nv105.size; have := sv106.out; omega)))) (sz_sta KQ.out) ?_))
            | ((with_reducible refine at_slot 43 ?_); (refine arm_load (o := ⟨some 43, _, _, _, _, _⟩) rfl _ _ rfl V 0 rfl (scs t) ((show Has (scs t) 0 (scs t) from Has.refl _).range (((rV104.old nv105.below).only ov106 (by have := rV104.lt; have := Ce.out; have := nv105.size; have := sv106.out; omega)))) (sz_sta KT.out) ?_))
            | ((with_reducible refine at_slot 44 ?_); (refine arm_want (.bool true) 44 rfl (by kernel_rfl) (run_op_eqlS KQ.out KT.out _ _ _ rfl rfl rfl true (iff_of_true rfl HQT.out) _) ?_))
            | ((with_reducible refine at_slot 48 ?_); (refine arm_want (.bool true) 48 rfl (by kernel_rfl) (cmp_eql _ _ .i64 (by kernel_rfl) _ _ rfl .i64 (qn : Int) (k : Int) rfl rfl true HQN.out _) ?_))
            | ((with_reducible refine at_slot 53 ?_); (refine arm_want (.bool true) 53 rfl (by kernel_rfl) (cmp_eql _ _ .i64 (by kernel_rfl) _ _ rfl .i64 qe z rfl rfl true HQE.out _) ?_)))
          have q0 := Ce.out
          have q1 := nv105.size
          have q2 := sv106.out
          have q3 := rV104.lt
          have q4 := rR104.lt
          have q5 := bel104.size
          have lC : w.heap.size ≤ C := by omega
          have nVC : V ≠ C := by omega
          have nCV : C ≠ V := by omega
          have nRC : R ≠ C := by omega
          have nCR : C ≠ R := by omega
          have rV107 : Row v106 V 35 (scs t) := ((rV104.old nv105.below).only ov106 nVC)
          have rR107 : Row v106 R 35 (scs qs) := ((rR104.old nv105.below).only ov106 nRC)
          have rC107 : Row v106 C 35 (scs c) := (hv106.congr (allS KC.out))
          have bel107 : Below w.heap.size w v106 := (below_only (below_step bel104 (by omega) nv105.below) ov106 lC (by omega))
          clear q0 q1 q2 q3 q4 q5 rV104 rR104 bel104 Ce hv105 nv105 hv106 ov106 sv106
          go_ret
          exact ⟨rfl, bel107⟩
      · obtain rfl : k = l.length := by omega
        have hg2 : (t, l.length, (0 : Int)) = (qs, qn, qe) := by rw [← chain_end]; exact HCH.out
        have HQT : Hid (scs qs = scs t) := Lib.hid (by have : t = qs := congrArg Prod.fst hg2; rw [this])
        have HQN : Hid (decide ((qn : Int) = (l.length : Int)) = true) := Lib.hid (decide_eq_true (by have : l.length = qn := congrArg (fun y => y.2.1) hg2; omega))
        have HQE : Hid (decide (qe = 0) = true) := Lib.hid (decide_eq_true (congrArg (fun y => y.2.2) hg2).symm)
        clear hg2
        go_wp2_with (first
          | ((with_reducible refine at_slot 57 ?_); (refine arm_load (o := ⟨some 57, _, _, _, _, _⟩) rfl _ _ rfl R 0 rfl (scs qs) ((show Has (scs qs) 0 (scs qs) from Has.refl _).range (rR)) (sz_sta KQ.out) ?_))
          | ((with_reducible refine at_slot 58 ?_); (refine arm_load (o := ⟨some 58, _, _, _, _, _⟩) rfl _ _ rfl V 0 rfl (scs t) ((show Has (scs t) 0 (scs t) from Has.refl _).range (rV)) (sz_sta KT.out) ?_))
          | ((with_reducible refine at_slot 59 ?_); (refine arm_want (.bool true) 59 rfl (by kernel_rfl) (run_op_eqlS KQ.out KT.out _ _ _ rfl rfl rfl true (iff_of_true rfl HQT.out) _) ?_))
          | ((with_reducible refine at_slot 64 ?_); (refine arm_want (.bool true) 64 rfl (by kernel_rfl) (cmp_eql _ _ .i64 (by kernel_rfl) _ _ rfl .i64 (qn : Int) (l.length : Int) rfl rfl true HQN.out _) ?_))
          | ((with_reducible refine at_slot 68 ?_); (refine arm_want (.bool true) 68 rfl (by kernel_rfl) (cmp_eql _ _ .i64 (by kernel_rfl) _ _ rfl .i64 qe 0 rfl rfl true HQE.out _) ?_)))
        go_ret
        exact ⟨rfl, bel⟩
end Go.Proofs.YtmohlcmhogbkjaaDoor.Gr
