/-
  The contracts of package window's Put and Relative. Over this seat's translation.
-/
import Derived.Test.YtbbmjjphkmjnbaaWinPutter
namespace Go.Proofs.Ytbbmjjphkmjnbaa.Wn
open Go.ChangeShapes Go.WideShapes Go.ChangeAt Go.RowKit Go.Proofs.Ytbbmjjphkmjnbaa.Mem Go.Proofs.Ytbbmjjphkmjnbaa.Bt Go.Proofs.Ytbbmjjphkmjnbaa.Rg
set_option linter.unusedVariables false
set_option linter.unusedSimpArgs false

theorem num_min (x y : Nat) : (if (y : Int) < (x : Int) then (y : Int) else (x : Int)) = ((min x y : Nat) : Int) := by split <;> omega
theorem looks_new {L u s : Nat} {cs : List Nat} (h : Rt L cs) (hu : L ≤ u) : decide (12 ≤ s ∧ (putd L cs u).getD (u % 4) 0 = 1) = decide (12 ≤ s ∧ L < u) := decide_eq_decide.2 ⟨fun g => ⟨g.1, (putd_alone h hu).1 g.2⟩, fun g => ⟨g.1, (putd_alone h hu).2 g.2⟩⟩
set_option maxHeartbeats 4000000 in
set_option maxRecDepth 100000 in
theorem wput_any (M L s : Nat) (cs : List Nat) (w : World) (hM : M < 4294967296) (hL : L < 4294967296) (hs : s < 4294967296) (hr : Rt L cs) (hl : cs.length = 4) :
    Calls Try.prog 12 #[.agg (wcs M L cs).toArray, .int .u32 (s : Int)] w fun e w' => e = .returned (.tuple #[.agg (wcs (putM M L cs s) (putL L cs (s / 3)) (putC L cs (s / 3))).toArray, .int .i64 (putE L cs (s / 3))]) ∧ Below w.heap.size w w' := by
  have HL := Lib.hid hl
  have CPP := Lib.hid (fun P w0 (h : Row w0 P 57 (pcs L cs s)) => pput_any P L s cs w0 h hs hr.1 hl)
  have hub : s / 3 < 4294967296 := by omega
  by_cases hok : L ≤ s / 3 ∧ atG L cs ((s / 3 : Nat) : Int) < 3
  · obtain ⟨e1, e2, e3, e4, e5⟩ := put_yes hok
    have e6 : putM M L cs s = relN M L cs s := if_pos hok
    rw [e3, e4, e5] at CPP
    rw [e1, e2, e3, e6]
    have HLK := fun P w0 (h : Row w0 P 57 (pcs (s / 3) (putd L cs (s / 3)) s)) => looks_any P (s / 3) s (putd L cs (s / 3)) w0 h hub hs (putd_len _ _ _)
    rw [looks_new hr hok.1] at HLK
    have CLK := Lib.hid HLK
    have CBF := fun w0 => Lib.hid (before_any L (s / 3) cs w0 hL hub hr.1 hl)
    have HPD := Lib.hid (putd_len L cs (s / 3))
    have hrel : relN M L cs s = if 12 ≤ s ∧ L < s / 3 then min M (befN L cs (s / 3)) else M := by
      unfold relN
      by_cases h : 12 ≤ s ∧ L < s / 3
      · rw [if_pos h, if_neg (by omega)]
      · rw [if_neg h, if_pos (by omega)]
    rw [hrel]
    have HBE : Hid (L < s / 3 → befE L (s / 3) = 0) := fun h => befE_ok h
    clear hok e1 e2 e3 e4 e5 e6 HLK hr hl hrel
    generalize putd L cs (s / 3) = pd at CPP CLK HPD ⊢
    generalize befN L cs (s / 3) = bn at CBF ⊢
    generalize befE L (s / 3) = be at CBF HBE
    generalize s / 3 = u at CPP CLK CBF hub HBE ⊢
    by_cases hk : 12 ≤ s ∧ L < u
    · rw [if_pos hk]
      rw [decide_eq_true hk] at CLK
      obtain rfl := HBE.out hk.2
      clear hk HBE
      go_enter Try.func12, Try.ntmps12
      go_wp2_with (first
        | ((with_reducible refine at_slot 2 ?_); (refine arm_box (o := ⟨some 2, _, _, _, _, _⟩) rfl _ _ rfl (wcs M L cs) rfl ?_); intro B wa Be hwa nwa)
        | ((with_reducible refine at_slot 4 ?_); (refine arm_alloc (o := ⟨some 4, _, _, _, _, _⟩) rfl _ rfl (wcs 0 0 [0, 0, 0, 0]) z_win ?_); intro R wb Re hwb nwb)
        | ((with_reducible refine at_slot 12 ?_); (refine arm_load (o := ⟨some 12, _, _, _, _, _⟩) rfl _ _ rfl B 1 rfl (rcs L cs) (row_ring (hwa.old nwb.below)) (sz_ring' HL.out) ?_))
        | ((with_reducible refine at_slot 14 ?_); (refine arm_build (o := ⟨some 14, _, _, _, _, _⟩) rfl _ _ rfl (pcs L cs s) (by simp only [List.map_toArray, List.map_cons, List.map_nil]; exact built_putter L s cs HL.out) ?_))
        | ((with_reducible refine at_slot 6 ?_); (refine arm_alloc (o := ⟨some 6, _, _, _, _, _⟩) rfl _ rfl (pcs 0 [0, 0, 0, 0] 0) z_putter ?_); intro P wd Pe hwd nwd)
        | ((with_reducible refine arm_store (o := ⟨none, _, _, _, _, _⟩) rfl _ _ _ rfl P 0 rfl (pcs L cs s) rfl _ _ (hwd) (by rw [pcs_len HL.out, pz_len]; omega) (pcs_one _ _ _) (sz_putter HL.out) ?_); intro we hwe owe swe))
      have eB := Be.out; have eR := Re.out; have eP := Pe.out; have za := nwa.size; have zb := nwb.size; have zd := nwd.size; have ze := swe.out
      have bel : Below w.heap.size w we := below_only (below_step (below_step nwa.below (by omega) nwb.below) (by omega) nwd.below) owe (by omega) (by omega)
      have rB := ((hwa.old nwb.below).old nwd.below).only owe (by omega)
      have rR := (hwb.old nwd.below).only owe (by omega)
      have rP : Row we P 57 (pcs L cs s) := hwe.congr (lay_all _ _ (by rw [pcs_len HL.out, pz_len]))
      have AP : Hid (w.heap.size ≤ B ∧ w.heap.size ≤ R ∧ w.heap.size ≤ P ∧ B ≠ R ∧ B ≠ P ∧ R ≠ P) := ⟨by omega, by omega, by omega, by omega, by omega, by omega⟩
      clear eB eR eP za zb zd ze Be Re Pe hwa hwb hwd hwe nwa nwb nwd owe swe
      clear wa wb wd
      refine (CPP.out P _ rP).mono ?_
      rintro e wf ⟨rfl, rP', oP⟩
      have rB' := rB.only oP AP.out.2.2.2.2.1
      have rR' := rR.only oP AP.out.2.2.2.2.2
      have bel' := below_only bel oP AP.out.2.2.1 bel.size
      clear bel rB rR rP oP
      have cB := rB'.cell (wcs_get0 M L cs)
      have cP := rP'.cell (pcs_get0 u s pd)
      go_wp2_with fail
      refine (CLK.out P _ rP').mono ?_
      rintro e wg ⟨rfl, hB⟩
      have rBg := rB'.old hB
      have rRg := rR'.old hB
      have rPg := rP'.old hB
      have bel3 := below_step bel' bel'.size hB
      clear rB' rR' rP' bel' hB cB cP
      have cP := rPg.cell (pcs_get0 u s pd)
      go_wp2_with (first
        | ((with_reducible refine at_slot 25 ?_); (refine arm_load (o := ⟨some 25, _, _, _, _, _⟩) rfl _ _ rfl B 1 rfl (rcs L cs) (row_ring rBg) (sz_ring' HL.out) ?_)))
      refine (CBF _).out.mono ?_
      rintro e wh ⟨rfl, hB⟩
      have rRh := rRg.old hB
      have rPh := rPg.old hB
      have bel4 := below_step bel3 bel3.size hB
      clear rBg rRg rPg bel3 hB cP
      go_wp2_with (first
        | ((with_reducible refine at_slot 34 ?_); (refine arm_min (o := ⟨some 34, _, _, _, _, _⟩) rfl _ _ _ rfl .u32 (M : Int) (bn : Int) rfl rfl (min M bn) (num_min M bn) ?_))
        | ((with_reducible refine at_slot 37 ?_); (refine arm_load (o := ⟨some 37, _, _, _, _, _⟩) rfl _ _ rfl P 0 rfl (rcs u pd) (prow_ring rPh) (sz_ring' HPD.out) ?_))
        | ((with_reducible refine at_slot 38 ?_); (refine arm_build (o := ⟨some 38, _, _, _, _, _⟩) rfl _ _ rfl (wcs (min M bn) u pd) (by simp only [List.map_toArray, List.map_cons, List.map_nil]; exact built_win (min M bn) u pd HPD.out) ?_))
        | ((with_reducible refine arm_store (o := ⟨none, _, _, _, _, _⟩) rfl _ _ _ rfl R 0 rfl (wcs (min M bn) u pd) rfl _ _ (rRh) (fit6 HPD.out) (wcs_one _ _ _) (sz_win HPD.out) ?_); intro wi hwi owi swi))
      refine bodyPost_ret (v := .tuple #[.agg (wcs (min M bn) u pd).toArray, .int .i64 0]) (result_row2 (p := 4) (u := 5) (ty := 27) (t := 27) (by kernel_rfl) _ wi R _ _ rfl rfl (hwi.congr (lay_all _ _ (len6 HPD.out))) (sz_win HPD.out)) rfl ⟨rfl, below_only bel4 owi AP.out.2.1 bel4.size⟩
    · rw [if_neg hk]
      rw [decide_eq_false hk] at CLK
      clear hk HBE CBF
      go_enter Try.func12, Try.ntmps12
      go_wp2_with (first
        | ((with_reducible refine at_slot 2 ?_); (refine arm_box (o := ⟨some 2, _, _, _, _, _⟩) rfl _ _ rfl (wcs M L cs) rfl ?_); intro B wa Be hwa nwa)
        | ((with_reducible refine at_slot 4 ?_); (refine arm_alloc (o := ⟨some 4, _, _, _, _, _⟩) rfl _ rfl (wcs 0 0 [0, 0, 0, 0]) z_win ?_); intro R wb Re hwb nwb)
        | ((with_reducible refine at_slot 12 ?_); (refine arm_load (o := ⟨some 12, _, _, _, _, _⟩) rfl _ _ rfl B 1 rfl (rcs L cs) (row_ring (hwa.old nwb.below)) (sz_ring' HL.out) ?_))
        | ((with_reducible refine at_slot 14 ?_); (refine arm_build (o := ⟨some 14, _, _, _, _, _⟩) rfl _ _ rfl (pcs L cs s) (by simp only [List.map_toArray, List.map_cons, List.map_nil]; exact built_putter L s cs HL.out) ?_))
        | ((with_reducible refine at_slot 6 ?_); (refine arm_alloc (o := ⟨some 6, _, _, _, _, _⟩) rfl _ rfl (pcs 0 [0, 0, 0, 0] 0) z_putter ?_); intro P wd Pe hwd nwd)
        | ((with_reducible refine arm_store (o := ⟨none, _, _, _, _, _⟩) rfl _ _ _ rfl P 0 rfl (pcs L cs s) rfl _ _ (hwd) (by rw [pcs_len HL.out, pz_len]; omega) (pcs_one _ _ _) (sz_putter HL.out) ?_); intro we hwe owe swe))
      have eB := Be.out; have eR := Re.out; have eP := Pe.out; have za := nwa.size; have zb := nwb.size; have zd := nwd.size; have ze := swe.out
      have bel : Below w.heap.size w we := below_only (below_step (below_step nwa.below (by omega) nwb.below) (by omega) nwd.below) owe (by omega) (by omega)
      have rB := ((hwa.old nwb.below).old nwd.below).only owe (by omega)
      have rR := (hwb.old nwd.below).only owe (by omega)
      have rP : Row we P 57 (pcs L cs s) := hwe.congr (lay_all _ _ (by rw [pcs_len HL.out, pz_len]))
      have AP : Hid (w.heap.size ≤ B ∧ w.heap.size ≤ R ∧ w.heap.size ≤ P ∧ B ≠ R ∧ B ≠ P ∧ R ≠ P) := ⟨by omega, by omega, by omega, by omega, by omega, by omega⟩
      clear eB eR eP za zb zd ze Be Re Pe hwa hwb hwd hwe nwa nwb nwd owe swe
      clear wa wb wd
      refine (CPP.out P _ rP).mono ?_
      rintro e wf ⟨rfl, rP', oP⟩
      have rB' := rB.only oP AP.out.2.2.2.2.1
      have rR' := rR.only oP AP.out.2.2.2.2.2
      have bel' := below_only bel oP AP.out.2.2.1 bel.size
      clear bel rB rR rP oP
      have cB := rB'.cell (wcs_get0 M L cs)
      go_wp2_with fail
      refine (CLK.out P _ rP').mono ?_
      rintro e wg ⟨rfl, hB⟩
      have rRg := rR'.old hB
      have rPg := rP'.old hB
      have bel3 := below_step bel' bel'.size hB
      clear rB' rR' rP' bel' hB cB
      go_wp2_with (first
        | ((with_reducible refine at_slot 37 ?_); (refine arm_load (o := ⟨some 37, _, _, _, _, _⟩) rfl _ _ rfl P 0 rfl (rcs u pd) (prow_ring rPg) (sz_ring' HPD.out) ?_))
        | ((with_reducible refine at_slot 38 ?_); (refine arm_build (o := ⟨some 38, _, _, _, _, _⟩) rfl _ _ rfl (wcs M u pd) (by simp only [List.map_toArray, List.map_cons, List.map_nil]; exact built_win M u pd HPD.out) ?_))
        | ((with_reducible refine arm_store (o := ⟨none, _, _, _, _, _⟩) rfl _ _ _ rfl R 0 rfl (wcs M u pd) rfl _ _ (rRg) (fit6 HPD.out) (wcs_one _ _ _) (sz_win HPD.out) ?_); intro wi hwi owi swi))
      refine bodyPost_ret (v := .tuple #[.agg (wcs M u pd).toArray, .int .i64 0]) (result_row2 (p := 4) (u := 5) (ty := 27) (t := 27) (by kernel_rfl) _ wi R _ _ rfl rfl (hwi.congr (lay_all _ _ (len6 HPD.out))) (sz_win HPD.out)) rfl ⟨rfl, below_only bel3 owi AP.out.2.1 bel3.size⟩
  · obtain ⟨e1, e2, e3, e4, e5⟩ := put_no hok
    have e6 : putM M L cs s = 0 := if_neg hok
    rw [e4, e5] at CPP
    rw [e1, e2, e6]
    have hne : (putE L cs (s / 3) != (0 : Int)) = true := bne_iff_ne.2 e3
    clear hok e1 e2 e3 e4 e5 e6 hr hl hub
    generalize putE L cs (s / 3) = pe at CPP hne ⊢
    go_enter Try.func12, Try.ntmps12
    go_wp2_with (first
      | ((with_reducible refine at_slot 2 ?_); (refine arm_box (o := ⟨some 2, _, _, _, _, _⟩) rfl _ _ rfl (wcs M L cs) rfl ?_); intro B wa Be hwa nwa)
      | ((with_reducible refine at_slot 4 ?_); (refine arm_alloc (o := ⟨some 4, _, _, _, _, _⟩) rfl _ rfl (wcs 0 0 [0, 0, 0, 0]) z_win ?_); intro R wb Re hwb nwb)
      | ((with_reducible refine at_slot 12 ?_); (refine arm_load (o := ⟨some 12, _, _, _, _, _⟩) rfl _ _ rfl B 1 rfl (rcs L cs) (row_ring (hwa.old nwb.below)) (sz_ring' HL.out) ?_))
      | ((with_reducible refine at_slot 14 ?_); (refine arm_build (o := ⟨some 14, _, _, _, _, _⟩) rfl _ _ rfl (pcs L cs s) (by simp only [List.map_toArray, List.map_cons, List.map_nil]; exact built_putter L s cs HL.out) ?_))
      | ((with_reducible refine at_slot 6 ?_); (refine arm_alloc (o := ⟨some 6, _, _, _, _, _⟩) rfl _ rfl (pcs 0 [0, 0, 0, 0] 0) z_putter ?_); intro P wd Pe hwd nwd)
      | ((with_reducible refine arm_store (o := ⟨none, _, _, _, _, _⟩) rfl _ _ _ rfl P 0 rfl (pcs L cs s) rfl _ _ (hwd) (by rw [pcs_len HL.out, pz_len]; omega) (pcs_one _ _ _) (sz_putter HL.out) ?_); intro we hwe owe swe))
    have eB := Be.out; have eR := Re.out; have eP := Pe.out; have za := nwa.size; have zb := nwb.size; have zd := nwd.size; have ze := swe.out
    have bel : Below w.heap.size w we := below_only (below_step (below_step nwa.below (by omega) nwb.below) (by omega) nwd.below) owe (by omega) (by omega)
    have rB := ((hwa.old nwb.below).old nwd.below).only owe (by omega)
    have rR := (hwb.old nwd.below).only owe (by omega)
    have rP : Row we P 57 (pcs L cs s) := hwe.congr (lay_all _ _ (by rw [pcs_len HL.out, pz_len]))
    have AP : Hid (w.heap.size ≤ B ∧ w.heap.size ≤ R ∧ w.heap.size ≤ P ∧ B ≠ R ∧ B ≠ P ∧ R ≠ P) := ⟨by omega, by omega, by omega, by omega, by omega, by omega⟩
    clear eB eR eP za zb zd ze Be Re Pe hwa hwb hwd hwe nwa nwb nwd owe swe
    clear wa wb wd
    refine (CPP.out P _ rP).mono ?_
    rintro e wf ⟨rfl, rP', oP⟩
    have rB' := rB.only oP AP.out.2.2.2.2.1
    have rR' := rR.only oP AP.out.2.2.2.2.2
    have bel' := below_only bel oP AP.out.2.2.1 bel.size
    clear bel rB rR rP oP
    go_wp2_with (first
      | ((with_reducible refine at_slot 18 ?_); (refine arm_build (o := ⟨some 18, _, _, _, _, _⟩) rfl _ _ rfl (wcs 0 0 [0, 0, 0, 0]) (by kernel_rfl) ?_))
      | ((with_reducible refine arm_store (o := ⟨none, _, _, _, _, _⟩) rfl _ _ _ rfl R 0 rfl (wcs 0 0 [0, 0, 0, 0]) rfl _ _ (rR') (fit6 rfl) (wcs_one _ _ _) (sz_win rfl) ?_); intro wi hwi owi swi))
    refine bodyPost_ret (v := .tuple #[.agg (wcs 0 0 [0, 0, 0, 0]).toArray, .int .i64 pe]) (result_row2 (p := 4) (u := 5) (ty := 27) (t := 27) (by kernel_rfl) _ wi R _ _ rfl rfl (hwi.congr (lay_all _ _ (len6 rfl))) (sz_win rfl)) rfl ⟨rfl, below_only bel' owi AP.out.2.1 bel'.size⟩
theorem rel_of_put {M L s : Nat} {cs : List Nat} (h : Rt L cs) : relN M L cs s = if putE L cs (s / 3) = 0 then putM M L cs s else M := by
  by_cases hok : L ≤ s / 3 ∧ atG L cs ((s / 3 : Nat) : Int) < 3
  · rw [if_pos (put_yes hok).2.2.1]
    exact (if_pos hok).symm
  · rw [if_neg (put_no hok).2.2.1]
    refine if_pos (Or.inr ?_)
    rcases Nat.lt_or_ge L (s / 3) with h1 | h1
    · exact absurd ⟨by omega, by rw [atG_out (.inr (by omega))]; omega⟩ hok
    · exact h1
set_option maxHeartbeats 2000000 in
set_option maxRecDepth 100000 in
theorem wrel_any (M L s : Nat) (cs : List Nat) (w : World) (hM : M < 4294967296) (hL : L < 4294967296) (hs : s < 4294967296) (hr : Rt L cs) (hl : cs.length = 4) :
    Calls Try.prog 14 #[.agg (wcs M L cs).toArray, .int .u32 (s : Int)] w fun e w' => e = .returned (.int .u32 (relN M L cs s : Nat)) ∧ Below w.heap.size w w' := by
  have HL := Lib.hid hl
  have CP := fun w0 => Lib.hid (wput_any M L s cs w0 hM hL hs hr hl)
  have HPL := Lib.hid (putC_len L cs (s / 3))
  obtain ⟨rv, hrv⟩ : ∃ rv, rv = relN M L cs s := ⟨_, rfl⟩
  rw [← hrv]
  rw [rel_of_put hr] at hrv
  clear hr hl
  generalize putL L cs (s / 3) = pl at CP
  generalize putC L cs (s / 3) = pc at CP HPL
  generalize putM M L cs s = pm at CP hrv
  generalize putE L cs (s / 3) = pe at CP hrv
  have HR := Lib.hid hrv
  clear hrv
  go_enter Try.func14, Try.ntmps14
  go_wp2_with (first
    | ((with_reducible refine at_slot 2 ?_); (refine arm_box (o := ⟨some 2, _, _, _, _, _⟩) rfl _ _ rfl (wcs M L cs) rfl ?_); intro B wa Be hwa nwa)
    | ((with_reducible refine at_slot 8 ?_); (refine arm_load (o := ⟨some 8, _, _, _, _, _⟩) rfl _ _ rfl B 0 rfl (wcs M L cs) (row_all hwa) (sz_win HL.out) ?_)))
  refine (CP _).out.mono ?_
  rintro e wb ⟨rfl, hB⟩
  have bel := below_step nwa.below nwa.below.size hB
  have rB := hwa.old hB
  clear Be hwa nwa hB CP
  clear wa
  by_cases h0 : pe = 0
  · obtain rfl : pm = rv := by rw [HR.out, if_pos h0]
    subst h0
    clear HR
    go_wp2_with (first
      | ((with_reducible refine at_slot 5 ?_); (refine arm_alloc (o := ⟨some 5, _, _, _, _, _⟩) rfl _ rfl (wcs 0 0 [0, 0, 0, 0]) z_win ?_); intro N wc Ne hwc nwc)
      | ((with_reducible refine arm_store (o := ⟨none, _, _, _, _, _⟩) rfl _ _ _ rfl N 0 rfl (wcs pm pl pc) rfl _ _ (hwc) (fit6 HPL.out) (wcs_one _ _ _) (sz_win HPL.out) ?_); intro wd hwd owd swd); have cN := (hwd.congr (lay_all _ _ (len6 HPL.out))).cell (wcs_get0 pm pl pc))
    have eN := Ne.out; have zN := bel.size
    go_ret
    exact ⟨rfl, below_only (below_step bel bel.size nwc.below) owd (by omega) (by rw [nwc.size]; omega)⟩
  · obtain rfl : M = rv := by rw [HR.out, if_neg h0]
    clear HR
    have hne : (pe != (0 : Int)) = true := bne_iff_ne.2 h0
    clear h0
    go_wp2_with (first
      | ((with_reducible refine at_slot 5 ?_); (refine arm_alloc (o := ⟨some 5, _, _, _, _, _⟩) rfl _ rfl (wcs 0 0 [0, 0, 0, 0]) z_win ?_); intro N wc Ne hwc nwc)
      | ((with_reducible refine arm_store (o := ⟨none, _, _, _, _, _⟩) rfl _ _ _ rfl N 0 rfl (wcs pm pl pc) rfl _ _ (hwc) (fit6 HPL.out) (wcs_one _ _ _) (sz_win HPL.out) ?_); intro wd hwd owd swd); have cB := ((rB.old nwc.below).only owd (by have := Ne.out; have := rB.lt; omega)).cell (wcs_get0 M L cs))
    have eN := Ne.out; have zN := bel.size
    go_ret
    exact ⟨rfl, below_only (below_step bel bel.size nwc.below) owd (by omega) (by rw [nwc.size]; omega)⟩
end Go.Proofs.Ytbbmjjphkmjnbaa.Wn
