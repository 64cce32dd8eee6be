/-
  The contract of package grow's Chain. Over this seat's translation.
-/
import Derived.Test.YtmohlcmhogbkjaaDoorGroChild
import Derived.Test.YtmohlcmhogbkjaaDoorGroChainS
namespace Go.Proofs.YtmohlcmhogbkjaaDoor.Gr
open Go.ChangeShapes Go.WideShapes Go.ChangeAt Go.RowKit Go.Proofs.YtmohlcmhogbkjaaDoor.Mem Go.Proofs.YtmohlcmhogbkjaaDoor.Bt Go.Proofs.YtmohlcmhogbkjaaDoor.Rg Go.Proofs.YtmohlcmhogbkjaaDoor.Wn Go.Proofs.YtmohlcmhogbkjaaDoor.Sa Go.Proofs.YtmohlcmhogbkjaaDoor.Sha
open Go.Proofs.YtmohlcmhogbkjaaDoor.Ep (H32 Dat Blk zh zh_ok num32 zd zd_ok Has h_len one_app one_num szH zH fitH allH)
set_option linter.unusedVariables false
set_option linter.unusedSimpArgs false

/-- Three results, the first of which lies in a variable of its own. -/
theorem result_row3 {P : Program} {fn : Func} {p u x : Tmp} {ty : TypeId} (h : fn.results = #[.cell p ty, .tmp u, .tmp x]) (tmps : Array Value) (w : World) (b : Nat) (t : TypeId) (cs : List Value) (v y : Value)
    (hp : tmps.getD p undef = .pointer (some ⟨b, 0, none⟩)) (hu : tmps.getD u undef = v) (hx : tmps.getD x undef = y) (hr : Row w b t cs) (hs : Sized P ty cs.length) : (results fn tmps).run P w = .ok (.tuple #[.agg cs.toArray, v, y]) w := by
  obtain ⟨d, hud, hd, hi⟩ := hs
  have hp' : tmps[p]?.getD undef = .pointer (some ⟨b, 0, none⟩) := by simpa using hp
  have hu' : tmps[u]?.getD undef = v := by simpa using hu
  have hx' : tmps[x]?.getD undef = y := by simpa using hx
  have hl := run_loadVar_row (P := P) w b t ty cs.toArray (0, 0) d hr hud (by cases d <;> first | rfl | cases hd) (by simpa using hi)
  simp [results, h, hp', hu', hx', asAddr, hl]
/-- What holds behind some blocks. -/
structure ChRel (w : World) (l : List Gb) (q : Sta × Nat × Int) (V R : Nat) (i : Value) (wr : World) : Prop where
  ex : ∃ (k : Nat) (t : Sta), k ≤ l.length ∧ i = .int .i64 k ∧ Row wr V 35 (scs t) ∧ Row wr R 35 (scs zs) ∧ t.Ok ∧ SRt t ∧ chainF t k (l.drop k) = q
  bel : Below w.heap.size w wr
set_option maxHeartbeats 4000000 in
set_option maxRecDepth 100000 in
theorem chain_any (x : List Nat) (l : List Gb) (p : Option Addr) (pc : Nat) (w : World) (kx : H32 x) (hs : Gbs w p l) (hm : l.length ≤ 1000) (hk : w.rangeAt 1 0 (u32s ks)) :
    Calls Tryd.prog 10 #[.agg (u8s x).toArray, .slice p l.length pc] w fun e w' => e = .returned (.tuple #[.agg (scs (chainF (genS x) 0 l).1).toArray, .int .i64 ((chainF (genS x) 0 l).2.1 : Nat), .int .i64 (chainF (genS x) 0 l).2.2]) ∧ Below w.heap.size w w' := by
  have hk1 : 1 < w.heap.size := range_lt hk (by simp [u32s, ks])
  have HKW : Hid (∀ w', Below w.heap.size w w' → w'.rangeAt 1 0 (u32s ks)) := Lib.hid fun w' hb => range_block hk (hb.block _ hk1)
  have KX := Lib.hid kx; have HS := Lib.hid hs
  have CG := Lib.hid (fun w0 => sgenesis_any x w0 kx)
  have GK := Lib.hid (gen_ok kx)
  have GR := Lib.hid (gen_right x)
  obtain ⟨q, hq⟩ : ∃ q, q = chainF (genS x) 0 l := ⟨_, rfl⟩
  rw [← hq]
  obtain ⟨g, hg⟩ : ∃ g, g = genS x := ⟨_, rfl⟩
  rw [← hg] at CG GK GR hq
  have HQ := Lib.hid (show chainF g 0 (l.drop 0) = q by rw [List.drop_zero]; exact hq.symm)
  clear hq hg kx hs hk hk1
  go_enter Tryd.func10, Tryd.ntmps10
  go_wp2_with (first
    | ((with_reducible refine at_slot 2 ?_); (refine arm_box (o := ⟨some 2, _, _, _, _, _⟩) rfl _ _ rfl (u8s x) rfl ?_); intro X v1 Xe hv1 nv1)
    | ((with_reducible refine at_slot 4 ?_); (refine arm_alloc (o := ⟨some 4, _, _, _, _, _⟩) rfl _ rfl (scs zs) z_sta ?_); intro R v2 Re hv2 nv2)
    | ((with_reducible refine at_slot 12 ?_); (refine arm_load (o := ⟨some 12, _, _, _, _, _⟩) rfl _ _ rfl X 0 rfl (u8s x) ((show Has (u8s x) 0 (u8s x) from Has.refl _).range ((hv1.old nv2.below))) (szH KX.out) ?_)))
  have q0 := Xe.out
  have q1 := nv1.size
  have q2 := Re.out
  have q3 := nv2.size
  have lX : w.heap.size ≤ X := by omega
  have lR : w.heap.size ≤ R := by omega
  have nXR : X ≠ R := by omega
  have nRX : R ≠ X := by omega
  have rX3 : Row v2 X 23 (u8s x) := (hv1.old nv2.below)
  have rR3 : Row v2 R 35 (scs zs) := hv2
  have bel3 : Below w.heap.size w v2 := (below_step (below_step (Below.refl _ _) (by omega) nv1.below) (by omega) nv2.below)
  clear q0 q1 q2 q3 Xe hv1 nv1 Re hv2 nv2
  refine (CG.out _).mono ?_
  rintro e y4 ⟨rfl, hB⟩
  have rX4 : Row y4 X 23 (u8s x) := rX3.old hB
  have rR4 : Row y4 R 35 (scs zs) := rR3.old hB
  have bel4 : Below w.heap.size w y4 := below_step bel3 bel3.size hB
  clear hB rX3 rR3 bel3
  clear rX4
  go_wp2_with (first
    | ((with_reducible refine at_slot 7 ?_); (refine arm_alloc (o := ⟨some 7, _, _, _, _, _⟩) rfl _ rfl (scs zs) z_sta ?_); intro V v5 Ve hv5 nv5)
    | ((with_reducible refine arm_store (o := ⟨none, _, _, _, _, _⟩) rfl _ _ _ rfl V 0 rfl (scs g) rfl _ _ (hv5) (fitS GK.out) (scs_one _) (sz_sta GK.out) ?_); intro v6 hv6 ov6 sv6))
  have q0 := Ve.out
  have q1 := nv5.size
  have q2 := sv6.out
  have q3 := rR4.lt
  have q4 := bel4.size
  have lV : w.heap.size ≤ V := by omega
  have nRV : R ≠ V := by omega
  have nVR : V ≠ R := by omega
  have rR7 : Row v6 R 35 (scs zs) := ((rR4.old nv5.below).only ov6 nRV)
  have rV7 : Row v6 V 35 (scs g) := (hv6.congr (allS GK.out))
  have bel7 : Below w.heap.size w v6 := (below_only (below_step bel4 (by omega) nv5.below) ov6 lV (by omega))
  clear q0 q1 q2 q3 q4 rR4 bel4 Ve hv5 nv5 hv6 ov6 sv6
  have h0 : ChRel w l q V R (.int .i64 0) v6 := ⟨⟨0, g, by omega, rfl, rV7, rR7, GK.out, GR.out, HQ.out⟩, bel7⟩
  clear rV7 rR7 bel7 CG HQ
  go_loopw [16] (fun i wr => ChRel w l q V R i wr) (fun i _ => l.length - (intOf i).toNat)
  case atStart => exact h0
  case round =>
    clear h0
    obtain ⟨⟨k, t, hk, rfl, rV, rR, kt, rt, hch⟩, bel⟩ := hrel
    have KT := Lib.hid kt; have RT := Lib.hid rt; have HCH := Lib.hid hch
    clear kt rt hch
    by_cases hlt : k < l.length
    · obtain ⟨b, hb⟩ : ∃ b, l[k]? = some b := ⟨_, List.getElem?_eq_getElem hlt⟩
      obtain ⟨gg, go, hP, hgl, hrs⟩ := HS.out.at_ k b hb
      have KB := Lib.hid (HS.out.ok.get hb)
      subst hP
      have RS := Lib.hid hrs
      have HB := Lib.hid hb
      clear hb hrs
      have ik : (k : Int) < (l.length : Int) := by omega
      have CC := Lib.hid (fun w0 h => child_any t b w0 KT.out RT.out KB.out h)
      have KC := Lib.hid (chS_ok KT.out RT.out KB.out)
      have HGO : Hid (chE t b = 0 → SRt (chS t b) ∧ chainF (chS t b) (k + 1) (l.drop (k + 1)) = q) := Lib.hid fun h => ⟨chS_right RT.out h, by rw [← chain_go HB.out h]; exact HCH.out⟩
      have HST : Hid (chE t b ≠ 0 → (t, k, chE t b) = q) := Lib.hid fun h => by rw [← chain_stop HB.out h]; exact HCH.out
      generalize chS t b = c at CC KC HGO
      generalize chE t b = z at CC HGO HST
      go_wp2_with (first
        | ((with_reducible refine at_slot 19 ?_); (refine arm_indexN (o := ⟨some 19, _, _, _, _, _⟩) rfl _ _ _ rfl 37 65 und_gbs (by kernel_rfl) gg go (l.length) pc rfl .i64 k rfl hlt ?_))
        | ((with_reducible refine at_slot 20 ?_); (refine arm_load (o := ⟨some 20, _, _, _, _, _⟩) rfl _ _ rfl gg (go + k * 65) rfl (gcs b) (range_block RS.out (bel.block gg hgl)) (sz_gb KB.out) ?_))
        | ((with_reducible refine at_slot 9 ?_); (refine arm_alloc (o := ⟨some 9, _, _, _, _, _⟩) rfl _ rfl (gcs zg) z_gb ?_); intro N v101 Ne hv101 nv101)
        | ((with_reducible refine arm_store (o := ⟨none, _, _, _, _, _⟩) rfl _ _ _ rfl N 0 rfl (gcs b) rfl _ _ (hv101) (fitG KB.out) (gcs_one _) (sz_gb KB.out) ?_); intro v102 hv102 ov102 sv102)
        | ((with_reducible refine at_slot 22 ?_); (refine arm_load (o := ⟨some 22, _, _, _, _, _⟩) rfl _ _ rfl V 0 rfl (scs t) ((show Has (scs t) 0 (scs t) from Has.refl _).range (((rV.old nv101.below).only ov102 (by have := rV.lt; have := Ne.out; have := nv101.size; have := sv102.out; omega)))) (sz_sta KT.out) ?_))
        | ((with_reducible refine at_slot 23 ?_); (refine arm_load (o := ⟨some 23, _, _, _, _, _⟩) rfl _ _ rfl N 0 rfl (gcs b) ((show Has (gcs b) 0 (gcs b) from Has.refl _).range ((hv102.congr (allG KB.out)))) (sz_gb KB.out) ?_)))
      have q0 := Ne.out
      have q1 := nv101.size
      have q2 := sv102.out
      have q3 := rV.lt
      have q4 := rR.lt
      have q5 := bel.size
      have lN : w.heap.size ≤ N := by omega
      have nVN : V ≠ N := by omega
      have nNV : N ≠ V := by omega
      have nRN : R ≠ N := by omega
      have nNR : N ≠ R := by omega
      have rV103 : Row v102 V 35 (scs t) := ((rV.old nv101.below).only ov102 nVN)
      have rR103 : Row v102 R 35 (scs zs) := ((rR.old nv101.below).only ov102 nRN)
      have rN103 : Row v102 N 37 (gcs b) := (hv102.congr (allG KB.out))
      have bel103 : Below w.heap.size w v102 := (below_only (below_step bel (by omega) nv101.below) ov102 lN (by omega))
      clear q0 q1 q2 q3 q4 q5 rV rR bel Ne hv101 nv101 hv102 ov102 sv102
      refine (CC.out _ (HKW.out _ bel103)).mono ?_
      rintro e y104 ⟨rfl, hB⟩
      have rV104 : Row y104 V 35 (scs t) := rV103.old hB
      have rR104 : Row y104 R 35 (scs zs) := rR103.old hB
      have rN104 : Row y104 N 37 (gcs b) := rN103.old hB
      have bel104 : Below w.heap.size w y104 := below_step bel103 bel103.size hB
      clear hB rV103 rR103 rN103 bel103
      clear rN104
      by_cases hz : z = 0
      · obtain rfl := hz
        have HG2 := Lib.hid (HGO.out rfl)
        clear HGO HST
        go_wp2_with (first
          | ((with_reducible refine at_slot 10 ?_); (refine arm_alloc (o := ⟨some 10, _, _, _, _, _⟩) rfl _ rfl (scs zs) z_sta ?_); intro C v105 Ce hv105 nv105)
          | ((with_reducible refine arm_store (o := ⟨none, _, _, _, _, _⟩) rfl _ _ _ rfl C 0 rfl (scs c) rfl _ _ (hv105) (fitS KC.out) (scs_one _) (sz_sta KC.out) ?_); intro v106 hv106 ov106 sv106)
          | ((with_reducible refine at_slot 32 ?_); (refine arm_load (o := ⟨some 32, _, _, _, _, _⟩) rfl _ _ rfl C 0 rfl (scs c) ((show Has (scs c) 0 (scs c) from Has.refl _).range ((hv106.congr (allS KC.out)))) (sz_sta KC.out) ?_))
          | ((with_reducible refine arm_store (o := ⟨none, _, _, _, _, _⟩) rfl _ _ _ rfl V 0 rfl (scs c) rfl _ _ (((rV104.old nv105.below).only ov106 (by have := rV104.lt; have := Ce.out; have := nv105.size; have := sv106.out; omega))) (by rw [scs_len KC.out, scs_len KT.out]; omega) (scs_one _) (sz_sta KC.out) ?_); intro v107 hv107 ov107 sv107))
        have q0 := Ce.out
        have q1 := nv105.size
        have q2 := sv106.out
        have q3 := sv107.out
        have q4 := rV104.lt
        have q5 := rR104.lt
        have q6 := bel104.size
        have lC : w.heap.size ≤ C := by omega
        have nVC : V ≠ C := by omega
        have nCV : C ≠ V := by omega
        have nRC : R ≠ C := by omega
        have nCR : C ≠ R := by omega
        have rV108 : Row v107 V 35 (scs c) := (hv107.congr (lay_all _ _ (by rw [scs_len KC.out, scs_len KT.out])))
        have rR108 : Row v107 R 35 (scs zs) := (((rR104.old nv105.below).only ov106 nRC).only ov107 nRV)
        have rC108 : Row v107 C 35 (scs c) := ((hv106.congr (allS KC.out)).only ov107 nCV)
        have bel108 : Below w.heap.size w v107 := (below_only (below_only (below_step bel104 (by omega) nv105.below) ov106 lC (by omega)) ov107 lV (by omega))
        clear q0 q1 q2 q3 q4 q5 q6 rV104 rR104 bel104 Ce hv105 nv105 hv106 ov106 sv106 hv107 ov107 sv107
        go_roundw
        case rel => exact ⟨⟨k + 1, c, by omega, by go_num, rV108, rR108, KC.out, HG2.out.1, HG2.out.2⟩, bel108⟩
        case measure => simp [intOf]; omega
      · have hz1 : (z == 0) = false := beq_eq_false_iff_ne.2 hz
        have hz2 : (z != 0) = true := bne_iff_ne.2 hz
        have HG2 := Lib.hid (HST.out hz)
        clear HGO HST hz
        go_wp2_with (first
          | ((with_reducible refine at_slot 10 ?_); (refine arm_alloc (o := ⟨some 10, _, _, _, _, _⟩) rfl _ rfl (scs zs) z_sta ?_); intro C v105 Ce hv105 nv105)
          | ((with_reducible refine arm_store (o := ⟨none, _, _, _, _, _⟩) rfl _ _ _ rfl C 0 rfl (scs c) rfl _ _ (hv105) (fitS KC.out) (scs_one _) (sz_sta KC.out) ?_); intro v106 hv106 ov106 sv106)
          | ((with_reducible refine at_slot 29 ?_); (refine arm_load (o := ⟨some 29, _, _, _, _, _⟩) rfl _ _ rfl V 0 rfl (scs t) ((show Has (scs t) 0 (scs t) from Has.refl _).range (((rV104.old nv105.below).only ov106 (by have := rV104.lt; have := Ce.out; have := nv105.size; have := sv106.out; omega)))) (sz_sta KT.out) ?_))
          | ((with_reducible refine arm_store (o := ⟨none, _, _, _, _, _⟩) rfl _ _ _ rfl R 0 rfl (scs t) rfl _ _ (((rR104.old nv105.below).only ov106 (by have := rR104.lt; have := Ce.out; have := nv105.size; have := sv106.out; omega))) (fitS KT.out) (scs_one _) (sz_sta KT.out) ?_); intro v107 hv107 ov107 sv107))
        have q0 := Ce.out
        have q1 := nv105.size
        have q2 := sv106.out
        have q3 := sv107.out
        have q4 := rV104.lt
        have q5 := rR104.lt
        have q6 := bel104.size
        have lC : w.heap.size ≤ C := by omega
        have nVC : V ≠ C := by omega
        have nCV : C ≠ V := by omega
        have nRC : R ≠ C := by omega
        have nCR : C ≠ R := by omega
        have rV108 : Row v107 V 35 (scs t) := (((rV104.old nv105.below).only ov106 nVC).only ov107 nVR)
        have rR108 : Row v107 R 35 (scs t) := (hv107.congr (allS KT.out))
        have rC108 : Row v107 C 35 (scs c) := ((hv106.congr (allS KC.out)).only ov107 nCR)
        have bel108 : Below w.heap.size w v107 := (below_only (below_only (below_step bel104 (by omega) nv105.below) ov106 lC (by omega)) ov107 lR (by omega))
        clear q0 q1 q2 q3 q4 q5 q6 rV104 rR104 bel104 Ce hv105 nv105 hv106 ov106 sv106 hv107 ov107 sv107
        rw [← HG2.out]
        exact bodyPost_ret (result_row3 (p := 4) (u := 5) (x := 6) (ty := 35) (t := 35) (by kernel_rfl) _ _ R (scs t) (.int .i64 k) (.int .i64 z) rfl rfl rfl rR108 (sz_sta KT.out)) rfl ⟨rfl, bel108⟩
    · obtain rfl : k = l.length := by omega
      have HG2 := Lib.hid (show (t, l.length, (0 : Int)) = q by rw [← chain_end]; exact HCH.out)
      go_wp2_with (first
        | ((with_reducible refine at_slot 34 ?_); (refine arm_load (o := ⟨some 34, _, _, _, _, _⟩) rfl _ _ rfl V 0 rfl (scs t) ((show Has (scs t) 0 (scs t) from Has.refl _).range (rV)) (sz_sta KT.out) ?_))
        | ((with_reducible refine arm_store (o := ⟨none, _, _, _, _, _⟩) rfl _ _ _ rfl R 0 rfl (scs t) rfl _ _ (rR) (fitS KT.out) (scs_one _) (sz_sta KT.out) ?_); intro v101 hv101 ov101 sv101))
      have q0 := sv101.out
      have q1 := rV.lt
      have q2 := rR.lt
      have q3 := bel.size
      have rV102 : Row v101 V 35 (scs t) := (rV.only ov101 nVR)
      have rR102 : Row v101 R 35 (scs t) := (hv101.congr (allS KT.out))
      have bel102 : Below w.heap.size w v101 := (below_only bel ov101 lR (by omega))
      clear q0 q1 q2 q3 rV rR bel hv101 ov101 sv101
      rw [← HG2.out]
      exact bodyPost_ret (result_row3 (p := 4) (u := 5) (x := 6) (ty := 35) (t := 35) (by kernel_rfl) _ _ R (scs t) (.int .i64 l.length) (.int .i64 0) rfl rfl rfl rR102 (sz_sta KT.out)) rfl ⟨rfl, bel102⟩
end Go.Proofs.YtmohlcmhogbkjaaDoor.Gr
