/-
  WindowLeast, walked: Min is the least of all windows that are looked at, counted in the whole history. Over this seat's translation.
-/
import Derived.Test.YtbbmjjphkmjnbaaWinCount
namespace Go.Proofs.Ytbbmjjphkmjnbaa.Wn
open Go.ChangeShapes Go.WideShapes Go.ChangeAt Go.RowKit Go.Proofs.Ytbbmjjphkmjnbaa.Mem Go.Proofs.Ytbbmjjphkmjnbaa.Bt Go.Proofs.Ytbbmjjphkmjnbaa.Rg Go.Proofs.Ytbbmjjphkmjnbaa.Wd
set_option linter.unusedVariables false
set_option linter.unusedSimpArgs false

structure WlRel (w : World) (n B base : Nat) (i lv wv : Value) (wr : World) : Prop where
  ex : ∃ k cap L M : Nat, ∃ p : Option Addr, ∃ xs ds : List Nat, k ≤ n ∧ i = .int .i64 k ∧ lv = .slice p xs.length cap ∧ wv = .int .u32 (M : Nat) ∧ xs.length ≤ k + 1 ∧ Hist xs L ds ∧ WRt M L ds ∧ O32 wr base p cap xs ∧ Row wr B 27 (wcs M L ds)
  bel : Below w.heap.size w wr
  sz : base ≤ wr.heap.size
theorem relN_new {M L s : Nat} {ds : List Nat} (h12 : 12 ≤ s) (hl : L < s / 3) : relN M L ds s = min M (befN L ds (s / 3)) := if_neg (by omega)
theorem relN_old {M L s : Nat} {ds : List Nat} (h : s < 12 ∨ s / 3 ≤ L) : relN M L ds s = M := if_pos h
theorem wrt_next {M L s : Nat} {ds : List Nat} (h : WRt M L ds) (hf : atG L ds ((s / 3 : Nat) : Int) < 3) : WRt (relN M L ds s) (s / 3) (putd L ds (s / 3)) :=
  ⟨Nat.le_trans (relN_le _ _ _ _) h.1, putd_rt h.2.1 hf⟩
set_option maxHeartbeats 4000000 in
set_option maxRecDepth 100000 in
theorem windowLeast_any (st : List Nat) (sp : Option Addr) (sc : Nat) (w : World) (hst : C32 w sp sc st) :
    Calls Try.prog 4 #[.slice sp st.length sc] w fun e w' => e = .returned (.bool true) ∧ Below w.heap.size w w' := by
  have HR := Lib.hid hst.r; have HT := Lib.hid hst.lt_
  clear hst
  go_enter Try.func4, Try.ntmps4
  go_wp2_with fail
  refine (awake_any _).mono ?_
  rintro e w1 ⟨rfl, hB1⟩
  by_cases h200 : st.length ≤ 200
  · have hd : decide ((200 : Int) < (st.length : Int)) = false := decide_eq_false (by omega)
    go_wp2_with fail
    refine (wgenesis_any _).mono ?_
    rintro e w2 ⟨rfl, hB2⟩
    have bel2 : Below w.heap.size w w2 := below_step hB1 hB1.size hB2
    clear hB1 hB2
    clear w1
    go_wp2_with (first
      | ((with_reducible refine at_slot 3 ?_); (refine arm_alloc (o := ⟨some 3, _, _, _, _, _⟩) rfl _ rfl (wcs 0 0 [0, 0, 0, 0]) z_win ?_); intro B va Be hva nva)
      | ((with_reducible refine arm_store (o := ⟨none, _, _, _, _, _⟩) rfl _ _ _ rfl B 0 rfl (wcs 12 0 [1, 3, 3, 3]) rfl _ _ (hva) (fit6 rfl) (wcs_one _ _ _) (sz_win rfl) ?_); intro vb hvb ovb svb)
      | ((with_reducible refine at_slot 19 ?_); (refine arm_one32 (o := ⟨some 19, _, _, _, _, _⟩) rfl _ rfl 0 (by simp only [List.map_toArray, List.map_cons, List.map_nil]; rfl) ?_); intro S w5 hSe hR5 hN5))
    have eB := Be.out; have s3 := nva.size; have s4 := svb.out; have eS := hSe.out; have s5 := hN5.size; have z2 := bel2.size
    obtain ⟨base, hbase⟩ : ∃ base, base = vb.heap.size := ⟨_, rfl⟩
    have bel5 : Below w.heap.size w w5 := below_step (below_only (below_step bel2 z2 nva.below) ovb (by omega) (by omega)) (by omega) hN5.below
    have lB : w.heap.size ≤ B := by omega
    have ltB : B < base := by omega
    have lbs : w.heap.size ≤ base := by omega
    have h0 : WlRel w st.length B base (.int .i64 0) (.slice (some ⟨S, 0, none⟩) 1 1) (.int .u32 12) w5 := ⟨⟨0, 1, 0, 12, some ⟨S, 0, none⟩, [0], [1, 3, 3, 3], by omega, rfl, rfl, rfl, by simp, Hist.first, by decide, own_row32 hR5 (by omega) (by simp), (hvb.congr (lay_all _ _ (len6 rfl))).old hN5.below⟩, bel5, by omega⟩
    clear eB s3 s4 eS s5 z2 Be hva nva hvb ovb svb hSe hR5 hN5 bel5 bel2 hbase
    clear w2 va vb
    go_wp2_with fail
    go_loopw [22, 4, 5] (fun i lv wv wr => WlRel w st.length B base i lv wv wr) (fun i _ _ _ => st.length - (intOf i).toNat)
    case atStart => exact h0
    case round =>
      clear h0
      obtain ⟨⟨k, cap, L, M, p, xs, ds, hk, rfl, rfl, rfl, hxl, hH, hW, hO, hRB⟩, hbel, hsz⟩ := hrel
      have HH := Lib.hid hH
      have HW := Lib.hid hW
      have HDL := Lib.hid hH.len
      clear hW
      by_cases hlt : k < st.length
      · obtain ⟨gs, os, hsp, hcs⟩ := (HR.out.below hbel (fun g o e => by
          obtain ⟨g', o', e', hr'⟩ := HR.out.at_ (by intro h; rw [h] at hlt; simp at hlt)
          have e2 := e'.symm.trans e
          have e3 : g' = g := by injection e2 with e2; injection e2
          rw [← e3]; exact range_lt hr' (by intro h; rw [show st = [] by simpa [u32s] using h] at hlt; simp at hlt))).cell hlt
        subst hsp
        have hyb := getD_lt HT.out (by omega) k
        generalize st.getD k 0 = y at hcs hyb
        have ik : (k : Int) < (st.length : Int) := by omega
        obtain ⟨m, hm⟩ : ∃ m, xs.length = m + 1 := ⟨xs.length - 1, by have := List.length_pos_iff.2 hH.ne; omega⟩
        obtain ⟨gl, ol, hpl, hcl⟩ := hO.r32.cell (i := m) (by omega)
        subst hpl
        have hlast : xs.getD m 0 = lastX xs := by unfold lastX; rw [hm]; rfl
        rw [hlast] at hcl
        have hlb := hH.last_lt
        have hm1 : (xs.length : Int) - 1 = (m : Int) := by omega
        have im : (m : Int) < (xs.length : Int) := by omega
        have HM := Lib.hid hm
        obtain ⟨z, hz⟩ : ∃ z, z = lastX xs := ⟨_, rfl⟩
        rw [← hz] at hcl hlb
        have HZ := Lib.hid hz
        clear hz hlast hH hm
        go_wp2_with fail
        by_cases hfit : z + y < 4294967296
        · obtain ⟨s, hs⟩ : ∃ s, s = z + y := ⟨_, rfl⟩
          refine (later_fits z y s _ hs (by omega)).mono ?_
          rintro e w6 ⟨rfl, rfl⟩
          by_cases hy : y = 0
          · subst hy
            have hy0 : (((0 : Nat) : Int) == 0) = true := by decide
            clear hs
            go_wp2_with fail
            go_roundw
            case rel => exact ⟨⟨k + 1, cap, L, M, _, xs, ds, by omega, by go_num, rfl, rfl, by omega, HH.out, HW.out, hO, hRB⟩, hbel, hsz⟩
            case measure => simp [intOf]; omega
          · have hy0 : ((y : Int) == 0) = false := beq_eq_false_iff_ne.2 (by omega)
            have hsl : lastX xs < s := by rw [← HZ.out]; omega
            have hsb : s < 4294967296 := by omega
            have HF := HH.out.free hsl
            have HN := Lib.hid (HH.out.next hsl hsb)
            have HWN := Lib.hid (wrt_next HW.out HF.2)
            have hub : s / 3 < 4294967296 := by omega
            have hMb : M < 4294967296 := by have := HW.out.1; omega
            have hLz : Hid (z / 3 = L) := by rw [HZ.out]; exact HH.out.last.symm
            have hLb : L < 4294967296 := by have := hLz.out; omega
            have CPUT0 := fun w0 => wput_any M L s ds w0 hMb hLb hsb HW.out.2 HDL.out
            have hok : L ≤ s / 3 ∧ atG L ds ((s / 3 : Nat) : Int) < 3 := HF
            obtain ⟨e1, e2, e3, e4, e5⟩ := put_yes hok
            rw [show putM M L ds s = relN M L ds s from if_pos hok, e1, e2, e3] at CPUT0
            have CPUT := fun w0 => Lib.hid (CPUT0 w0)
            have CSUB := fun w0 => Lib.hid (sub_nat s w0 hsb)
            have CSUZ := fun w0 => Lib.hid (sub_nat z w0 hlb)
            rw [hLz.out] at CSUZ
            have hsx : xs.length ≤ 201 := by omega
            have HSX := Lib.hid hsx
            have HAH : Hid (L < s / 3 → befN L ds (s / 3) = ahd xs (s / 3) 4) := fun h => HH.out.ahead h
            have CCN : Hid (∀ w0, R32 w0 (some ⟨gl, ol, none⟩) xs → Calls Try.prog 18 #[.slice (some ⟨gl, ol, none⟩) xs.length cap, .int .u32 ((s / 3 : Nat) : Int)] w0 fun e w' => e = .returned (.int .u32 (ahd xs (s / 3) 4 : Nat)) ∧ w0 = w') := fun w0 h => counted7_any xs _ cap (s / 3) w0 h HH.out.lt_ (by omega) hub
            have HRN : Hid (12 ≤ s → L < s / 3 → relN M L ds s = min M (ahd xs (s / 3) 4)) := fun h1 h2 => by rw [relN_new h1 h2, HAH.out h2]
            have HRO : Hid ((s < 12 ∨ s / 3 ≤ L) → relN M L ds s = M) := fun h => relN_old h
            have CRT0 := fun w0 => wright_any (relN M L ds s) (s / 3) (putd L ds (s / 3)) w0 (by have := HWN.out.1; omega) hub (fun x hx => Nat.lt_trans (small_lt HN.out.small HN.out.len x hx) (by omega)) HN.out.len
            rw [decide_eq_true HWN.out] at CRT0
            have CRT := fun w0 => Lib.hid (CRT0 w0)
            have HPL := Lib.hid HN.out.len
            clear CPUT0 CRT0 HF hok e1 e2 e3 e4 e5 HAH hLz HZ hsl hs hcs hcl
            obtain ⟨pd, hpd⟩ : ∃ pd, pd = putd L ds (s / 3) := ⟨_, rfl⟩
            obtain ⟨rv, hrv⟩ : ∃ rv, rv = relN M L ds s := ⟨_, rfl⟩
            rw [← hpd, ← hrv] at CPUT CRT HWN
            rw [← hpd] at HN HPL
            rw [← hrv] at HRN HRO
            clear hpd hrv
            generalize ahd xs (s / 3) 4 = bn at CCN HRN
            generalize s / 3 = u at CPUT CSUB CCN HRN HRO CRT HN HWN hub
            by_cases h12 : 12 ≤ s
            · have hd12 : decide ((12 : Int) ≤ (s : Int)) = true := decide_eq_true (by omega)
              go_wp2_with fail
              refine (CSUB _).out.mono ?_
              rintro e wq ⟨rfl, rfl⟩
              go_wp2_with fail
              refine (CSUZ _).out.mono ?_
              rintro e wq ⟨rfl, rfl⟩
              by_cases hLu : L < u
              · have hdu : decide (L < u) = true := decide_eq_true hLu
                have hrm := HRN.out h12 hLu
                have HRM := Lib.hid hrm
                clear hrm HRN HRO CSUZ
                go_wp2_with fail
                refine (CSUB _).out.mono ?_
                rintro e wq ⟨rfl, rfl⟩
                go_wp2_with fail
                refine (CCN.out _ hO.r32).mono ?_
                rintro e wq ⟨rfl, rfl⟩
                clear hd12 hdu h12 hLu CCN CSUB
                go_wp2_with (first
                  | ((with_reducible refine at_slot 58 ?_); (refine arm_min (o := ⟨some 58, _, _, _, _, _⟩) rfl _ _ _ rfl .u32 (M : Int) (bn : Int) rfl rfl rv (by rw [HRM.out]; exact num_min M bn) ?_))
                  | ((with_reducible refine at_slot 60 ?_); (refine arm_load (o := ⟨some 60, _, _, _, _, _⟩) rfl _ _ rfl B 0 rfl (wcs M L ds) (row_all hRB) (sz_win HDL.out) ?_)))
                refine (CPUT _).out.mono ?_
                rintro e w7 ⟨rfl, hB7⟩
                have rB7 := hRB.old hB7
                have O7 := hO.old hB7
                have bel7 := below_step hbel hbel.size hB7
                have sz7 := Nat.le_trans hsz hB7.size
                clear hRB hO hbel hsz hB7 CPUT
                go_wp2_with (first
                  | ((with_reducible refine at_slot 11 ?_); (refine arm_alloc (o := ⟨some 11, _, _, _, _, _⟩) rfl _ rfl (wcs 0 0 [0, 0, 0, 0]) z_win ?_); intro N va Ne hva nva)
                  | ((with_reducible refine arm_store (o := ⟨none, _, _, _, _, _⟩) rfl _ _ _ rfl N 0 rfl (wcs rv u pd) rfl _ _ (hva) (fit6 HPL.out) (wcs_one _ _ _) (sz_win HPL.out) ?_); intro vb hvb ovb svb); have rN8 := hvb.congr (lay_all _ _ (len6 HPL.out)); have cN := rN8.cell (wcs_get0 rv u pd)
                  | ((with_reducible refine at_slot 74 ?_); (refine arm_want (.agg (wcs rv u pd).toArray) 74 rfl (by kernel_rfl) (run_op_load _ _ rfl N 0 rfl (wcs rv u pd) (row_all rN8) (sz_win HPL.out)) ?_)))
                have eN := Ne.out; have sN := nva.size; have tN := svb.out; have lB7 := rB7.lt
                have hB8 : Below w7.heap.size w7 vb := below_only nva.below ovb (by omega) (by omega)
                have bel8 := below_step bel7 bel7.size hB8
                have rB8 := rB7.old hB8
                have O8 := O7.old hB8
                have sz8 := Nat.le_trans sz7 hB8.size
                have NNB : Hid (N ≠ B) := Lib.hid (by omega)
                clear eN sN tN lB7 hB8 Ne hva nva hvb ovb svb rB7 O7 bel7 sz7 cN
                clear va w7
                refine (CRT _).out.mono ?_
                rintro e w9 ⟨rfl, hB9⟩
                have rN9 := rN8.old hB9
                have rB9 := rB8.old hB9
                have O9 := O8.old hB9
                have bel9 := below_step bel8 bel8.size hB9
                have sz9 := Nat.le_trans sz8 hB9.size
                clear rN8 rB8 O8 bel8 sz8 hB9 CRT
                clear vb
                go_wp2_with fail
                refine wp_region_held (S := fun w' => Row w' N 27 (wcs rv u pd)) (by kernel_rfl) ?_
                change wpAnyH _ _ _ _ _ _ _ _ w9.drew
                have rNz : Row w9.drew N 27 (wcs rv u pd) := rN9
                have rBz : Row w9.drew B 27 (wcs M L ds) := rB9
                have Oz : O32 w9.drew base (some ⟨gl, ol, none⟩) cap xs := O9.old ((Below.refl _ _).drew)
                have belz : Below w.heap.size w w9.drew := bel9.trans ((Below.refl _ _).drew)
                have szz : base ≤ w9.drew.heap.size := sz9
                generalize w9.drew = wz at rNz rBz Oz belz szz ⊢
                clear rN9 rB9 O9 bel9 sz9
                clear w9
                refine h_take 0 (.agg (wcs rv u pd).toArray) rfl 78 rfl (by kernel_rfl) (by kernel_rfl) (by kernel_rfl) (by kernel_rfl) (fun _ _ _ h => h) (fun w' hC => run_op_load _ _ rfl N 0 rfl (wcs rv u pd) (row_all hC) (sz_win HPL.out)) rNz ?_
                simp only [Act.put, List.setIfInBounds_toArray, List.set_cons_zero, List.set_cons_succ]
                refine h_take 1 (.slice (some ⟨gl, ol, none⟩) xs.length cap) rfl 79 rfl (by kernel_rfl) (by kernel_rfl) (by kernel_rfl) (by kernel_rfl) (fun _ _ _ h => h) (fun w' _ => by kernel_rfl) rNz ?_
                simp only [Act.put, List.setIfInBounds_toArray, List.set_cons_zero, List.set_cons_succ]
                refine h_take 2 (.int .u32 (s : Int)) rfl 80 rfl (by kernel_rfl) (by kernel_rfl) (by kernel_rfl) (by kernel_rfl) (fun _ _ _ h => h) (fun w' _ => by kernel_rfl) rNz ?_
                simp only [Act.put, List.setIfInBounds_toArray, List.set_cons_zero, List.set_cons_succ]
                refine h_one (i := 3) (by kernel_rfl) (o_value _ rfl 81 rfl (by kernel_rfl) (run_op_one32 _ rfl s (by simp only [List.map_toArray, List.map_cons, List.map_nil]; rfl)) ?_)
                have hN2 := new_alloc wz (.cells (u32s [s]).toArray 22)
                have rS2 : Row (wz.alloc (.cells (u32s [s]).toArray 22)) wz.heap.size 22 (u32s [s]) := heap_alloc_new _ _
                generalize wz.alloc (.cells (u32s [s]).toArray 22) = y2 at hN2 rS2 ⊢
                have rN2 := rNz.old hN2.below
                refine ⟨rN2, ?_⟩
                have rB2 := rBz.old hN2.below
                have O2 := Oz.old hN2.below
                have bel2 := below_step belz belz.size hN2.below
                have sz2 := Nat.le_trans szz hN2.below.size
                clear rNz rBz Oz belz szz hN2
                generalize wz.heap.size = S2 at rS2 ⊢
                clear wz
                simp only [Act.put, List.setIfInBounds_toArray, List.set_cons_zero, List.set_cons_succ]
                refine h_one (i := 4) (by kernel_rfl) (o_append32 rfl 82 rfl (by kernel_rfl) _ _ rfl base (some ⟨gl, ol, none⟩) xs.length cap xs rfl rfl O2 S2 1 1 [s] rfl rfl (row_all rS2) (by have := HSX.out; simp only [List.length_cons, List.length_nil]; omega) sz2 ?_)
                intro p3 cap3 y3 O3 b3 k3
                have rN3 := k3 N _ _ (by decide) rN2
                have rB3 := k3 B _ _ (by decide) rB2
                refine ⟨rN3, ?_⟩
                have bel3 := bel2.trans (b3.mono lbs)
                have sz3 := Nat.le_trans sz2 b3.size
                clear rS2 rN2 rB2 O2 bel2 sz2 b3 k3
                clear y2
                simp only [Act.put, List.setIfInBounds_toArray, List.set_cons_zero, List.set_cons_succ]
                refine h_one (i := 5) (by kernel_rfl) (o_skip rfl rfl (by kernel_rfl) (run_op_store _ _ _ rfl B 0 rfl (wcs rv u pd) rfl _ _ rB3 (by rw [wcs_len HPL.out, wcs_len HDL.out]; omega) (wcs_one _ _ _) (sz_win HPL.out)) ?_)
                have rB4 : Row _ B 27 (wcs rv u pd) := (row_setRow rB3 (lay (wcs M L ds) 0 (wcs rv u pd))).congr (lay_all _ _ (by rw [wcs_len HPL.out, wcs_len HDL.out]))
                have o4 := Only.setRow B y3 (lay (wcs M L ds) 0 (wcs rv u pd)).toArray
                generalize y3.setRow B (lay (wcs M L ds) 0 (wcs rv u pd)).toArray = y4 at rB4 o4 ⊢
                have rN4 := rN3.only o4 NNB.out
                refine ⟨rN4, ?_⟩
                have O4 := O3.only o4 ltB
                have bel4 := below_only bel3 o4 lB bel3.size
                have sz4 := Nat.le_trans sz3 o4.size
                clear rN3 rB3 O3 bel3 sz3 o4
                clear y3
                refine h_take 6 (.slice p3 (xs ++ [s]).length cap3) rfl 4 rfl (by kernel_rfl) (by kernel_rfl) (by kernel_rfl) (by kernel_rfl) (fun _ _ _ h => h) (fun w' _ => by kernel_rfl) rN4 ?_
                simp only [Act.put, List.setIfInBounds_toArray, List.set_cons_zero, List.set_cons_succ]
                refine wpAnyH_done (by kernel_rfl) ?_ _
                have hxl2 : (xs ++ [s]).length ≤ k + 2 := by rw [List.length_append, List.length_singleton]; omega
                generalize xs ++ [s] = xs2 at HN O4 hxl2 ⊢
                clear rN4 HH HDL HM HSX hxl
                go_wp2_with fail
                go_roundw
                case rel => exact ⟨⟨k + 1, cap3, u, rv, p3, xs2, pd, by omega, by go_num, rfl, rfl, by omega, HN.out, HWN.out, O4, rB4⟩, bel4, sz4⟩
                case measure => simp [intOf]; omega
              · have hdu : decide (L < u) = false := decide_eq_false hLu
                obtain rfl : M = rv := (HRO.out (Or.inr (by omega))).symm
                clear HRN HRO CSUZ CSUB CCN h12 hLu
                go_wp2_with (first
                  | ((with_reducible refine at_slot 60 ?_); (refine arm_load (o := ⟨some 60, _, _, _, _, _⟩) rfl _ _ rfl B 0 rfl (wcs M L ds) (row_all hRB) (sz_win HDL.out) ?_)))
                refine (CPUT _).out.mono ?_
                rintro e w7 ⟨rfl, hB7⟩
                have rB7 := hRB.old hB7
                have O7 := hO.old hB7
                have bel7 := below_step hbel hbel.size hB7
                have sz7 := Nat.le_trans hsz hB7.size
                clear hRB hO hbel hsz hB7 CPUT
                go_wp2_with (first
                  | ((with_reducible refine at_slot 11 ?_); (refine arm_alloc (o := ⟨some 11, _, _, _, _, _⟩) rfl _ rfl (wcs 0 0 [0, 0, 0, 0]) z_win ?_); intro N va Ne hva nva)
                  | ((with_reducible refine arm_store (o := ⟨none, _, _, _, _, _⟩) rfl _ _ _ rfl N 0 rfl (wcs M u pd) rfl _ _ (hva) (fit6 HPL.out) (wcs_one _ _ _) (sz_win HPL.out) ?_); intro vb hvb ovb svb); have rN8 := hvb.congr (lay_all _ _ (len6 HPL.out)); have cN := rN8.cell (wcs_get0 M u pd)
                  | ((with_reducible refine at_slot 74 ?_); (refine arm_want (.agg (wcs M u pd).toArray) 74 rfl (by kernel_rfl) (run_op_load _ _ rfl N 0 rfl (wcs M u pd) (row_all rN8) (sz_win HPL.out)) ?_)))
                have eN := Ne.out; have sN := nva.size; have tN := svb.out; have lB7 := rB7.lt
                have hB8 : Below w7.heap.size w7 vb := below_only nva.below ovb (by omega) (by omega)
                have bel8 := below_step bel7 bel7.size hB8
                have rB8 := rB7.old hB8
                have O8 := O7.old hB8
                have sz8 := Nat.le_trans sz7 hB8.size
                have NNB : Hid (N ≠ B) := Lib.hid (by omega)
                clear eN sN tN lB7 hB8 Ne hva nva hvb ovb svb rB7 O7 bel7 sz7 cN
                clear va w7
                refine (CRT _).out.mono ?_
                rintro e w9 ⟨rfl, hB9⟩
                have rN9 := rN8.old hB9
                have rB9 := rB8.old hB9
                have O9 := O8.old hB9
                have bel9 := below_step bel8 bel8.size hB9
                have sz9 := Nat.le_trans sz8 hB9.size
                clear rN8 rB8 O8 bel8 sz8 hB9 CRT
                clear vb
                go_wp2_with fail
                refine wp_region_held (S := fun w' => Row w' N 27 (wcs M u pd)) (by kernel_rfl) ?_
                change wpAnyH _ _ _ _ _ _ _ _ w9.drew
                have rNz : Row w9.drew N 27 (wcs M u pd) := rN9
                have rBz : Row w9.drew B 27 (wcs M L ds) := rB9
                have Oz : O32 w9.drew base (some ⟨gl, ol, none⟩) cap xs := O9.old ((Below.refl _ _).drew)
                have belz : Below w.heap.size w w9.drew := bel9.trans ((Below.refl _ _).drew)
                have szz : base ≤ w9.drew.heap.size := sz9
                generalize w9.drew = wz at rNz rBz Oz belz szz ⊢
                clear rN9 rB9 O9 bel9 sz9
                clear w9
                refine h_take 0 (.agg (wcs M u pd).toArray) rfl 78 rfl (by kernel_rfl) (by kernel_rfl) (by kernel_rfl) (by kernel_rfl) (fun _ _ _ h => h) (fun w' hC => run_op_load _ _ rfl N 0 rfl (wcs M u pd) (row_all hC) (sz_win HPL.out)) rNz ?_
                simp only [Act.put, List.setIfInBounds_toArray, List.set_cons_zero, List.set_cons_succ]
                refine h_take 1 (.slice (some ⟨gl, ol, none⟩) xs.length cap) rfl 79 rfl (by kernel_rfl) (by kernel_rfl) (by kernel_rfl) (by kernel_rfl) (fun _ _ _ h => h) (fun w' _ => by kernel_rfl) rNz ?_
                simp only [Act.put, List.setIfInBounds_toArray, List.set_cons_zero, List.set_cons_succ]
                refine h_take 2 (.int .u32 (s : Int)) rfl 80 rfl (by kernel_rfl) (by kernel_rfl) (by kernel_rfl) (by kernel_rfl) (fun _ _ _ h => h) (fun w' _ => by kernel_rfl) rNz ?_
                simp only [Act.put, List.setIfInBounds_toArray, List.set_cons_zero, List.set_cons_succ]
                refine h_one (i := 3) (by kernel_rfl) (o_value _ rfl 81 rfl (by kernel_rfl) (run_op_one32 _ rfl s (by simp only [List.map_toArray, List.map_cons, List.map_nil]; rfl)) ?_)
                have hN2 := new_alloc wz (.cells (u32s [s]).toArray 22)
                have rS2 : Row (wz.alloc (.cells (u32s [s]).toArray 22)) wz.heap.size 22 (u32s [s]) := heap_alloc_new _ _
                generalize wz.alloc (.cells (u32s [s]).toArray 22) = y2 at hN2 rS2 ⊢
                have rN2 := rNz.old hN2.below
                refine ⟨rN2, ?_⟩
                have rB2 := rBz.old hN2.below
                have O2 := Oz.old hN2.below
                have bel2 := below_step belz belz.size hN2.below
                have sz2 := Nat.le_trans szz hN2.below.size
                clear rNz rBz Oz belz szz hN2
                generalize wz.heap.size = S2 at rS2 ⊢
                clear wz
                simp only [Act.put, List.setIfInBounds_toArray, List.set_cons_zero, List.set_cons_succ]
                refine h_one (i := 4) (by kernel_rfl) (o_append32 rfl 82 rfl (by kernel_rfl) _ _ rfl base (some ⟨gl, ol, none⟩) xs.length cap xs rfl rfl O2 S2 1 1 [s] rfl rfl (row_all rS2) (by have := HSX.out; simp only [List.length_cons, List.length_nil]; omega) sz2 ?_)
                intro p3 cap3 y3 O3 b3 k3
                have rN3 := k3 N _ _ (by decide) rN2
                have rB3 := k3 B _ _ (by decide) rB2
                refine ⟨rN3, ?_⟩
                have bel3 := bel2.trans (b3.mono lbs)
                have sz3 := Nat.le_trans sz2 b3.size
                clear rS2 rN2 rB2 O2 bel2 sz2 b3 k3
                clear y2
                simp only [Act.put, List.setIfInBounds_toArray, List.set_cons_zero, List.set_cons_succ]
                refine h_one (i := 5) (by kernel_rfl) (o_skip rfl rfl (by kernel_rfl) (run_op_store _ _ _ rfl B 0 rfl (wcs M u pd) rfl _ _ rB3 (by rw [wcs_len HPL.out, wcs_len HDL.out]; omega) (wcs_one _ _ _) (sz_win HPL.out)) ?_)
                have rB4 : Row _ B 27 (wcs M u pd) := (row_setRow rB3 (lay (wcs M L ds) 0 (wcs M u pd))).congr (lay_all _ _ (by rw [wcs_len HPL.out, wcs_len HDL.out]))
                have o4 := Only.setRow B y3 (lay (wcs M L ds) 0 (wcs M u pd)).toArray
                generalize y3.setRow B (lay (wcs M L ds) 0 (wcs M u pd)).toArray = y4 at rB4 o4 ⊢
                have rN4 := rN3.only o4 NNB.out
                refine ⟨rN4, ?_⟩
                have O4 := O3.only o4 ltB
                have bel4 := below_only bel3 o4 lB bel3.size
                have sz4 := Nat.le_trans sz3 o4.size
                clear rN3 rB3 O3 bel3 sz3 o4
                clear y3
                refine h_take 6 (.slice p3 (xs ++ [s]).length cap3) rfl 4 rfl (by kernel_rfl) (by kernel_rfl) (by kernel_rfl) (by kernel_rfl) (fun _ _ _ h => h) (fun w' _ => by kernel_rfl) rN4 ?_
                simp only [Act.put, List.setIfInBounds_toArray, List.set_cons_zero, List.set_cons_succ]
                refine wpAnyH_done (by kernel_rfl) ?_ _
                have hxl2 : (xs ++ [s]).length ≤ k + 2 := by rw [List.length_append, List.length_singleton]; omega
                generalize xs ++ [s] = xs2 at HN O4 hxl2 ⊢
                clear rN4 HH HDL HM HSX hxl
                go_wp2_with fail
                go_roundw
                case rel => exact ⟨⟨k + 1, cap3, u, M, p3, xs2, pd, by omega, by go_num, rfl, rfl, by omega, HN.out, HWN.out, O4, rB4⟩, bel4, sz4⟩
                case measure => simp [intOf]; omega
            · have hd12 : decide ((12 : Int) ≤ (s : Int)) = false := decide_eq_false (by omega)
              obtain rfl : M = rv := (HRO.out (Or.inl (by omega))).symm
              clear HRN HRO CSUZ CSUB CCN h12
              go_wp2_with (first
                | ((with_reducible refine at_slot 60 ?_); (refine arm_load (o := ⟨some 60, _, _, _, _, _⟩) rfl _ _ rfl B 0 rfl (wcs M L ds) (row_all hRB) (sz_win HDL.out) ?_)))
              refine (CPUT _).out.mono ?_
              rintro e w7 ⟨rfl, hB7⟩
              have rB7 := hRB.old hB7
              have O7 := hO.old hB7
              have bel7 := below_step hbel hbel.size hB7
              have sz7 := Nat.le_trans hsz hB7.size
              clear hRB hO hbel hsz hB7 CPUT
              go_wp2_with (first
                | ((with_reducible refine at_slot 11 ?_); (refine arm_alloc (o := ⟨some 11, _, _, _, _, _⟩) rfl _ rfl (wcs 0 0 [0, 0, 0, 0]) z_win ?_); intro N va Ne hva nva)
                | ((with_reducible refine arm_store (o := ⟨none, _, _, _, _, _⟩) rfl _ _ _ rfl N 0 rfl (wcs M u pd) rfl _ _ (hva) (fit6 HPL.out) (wcs_one _ _ _) (sz_win HPL.out) ?_); intro vb hvb ovb svb); have rN8 := hvb.congr (lay_all _ _ (len6 HPL.out)); have cN := rN8.cell (wcs_get0 M u pd)
                | ((with_reducible refine at_slot 74 ?_); (refine arm_want (.agg (wcs M u pd).toArray) 74 rfl (by kernel_rfl) (run_op_load _ _ rfl N 0 rfl (wcs M u pd) (row_all rN8) (sz_win HPL.out)) ?_)))
              have eN := Ne.out; have sN := nva.size; have tN := svb.out; have lB7 := rB7.lt
              have hB8 : Below w7.heap.size w7 vb := below_only nva.below ovb (by omega) (by omega)
              have bel8 := below_step bel7 bel7.size hB8
              have rB8 := rB7.old hB8
              have O8 := O7.old hB8
              have sz8 := Nat.le_trans sz7 hB8.size
              have NNB : Hid (N ≠ B) := Lib.hid (by omega)
              clear eN sN tN lB7 hB8 Ne hva nva hvb ovb svb rB7 O7 bel7 sz7 cN
              clear va w7
              refine (CRT _).out.mono ?_
              rintro e w9 ⟨rfl, hB9⟩
              have rN9 := rN8.old hB9
              have rB9 := rB8.old hB9
              have O9 := O8.old hB9
              have bel9 := below_step bel8 bel8.size hB9
              have sz9 := Nat.le_trans sz8 hB9.size
              clear rN8 rB8 O8 bel8 sz8 hB9 CRT
              clear vb
              go_wp2_with fail
              refine wp_region_held (S := fun w' => Row w' N 27 (wcs M u pd)) (by kernel_rfl) ?_
              change wpAnyH _ _ _ _ _ _ _ _ w9.drew
              have rNz : Row w9.drew N 27 (wcs M u pd) := rN9
              have rBz : Row w9.drew B 27 (wcs M L ds) := rB9
              have Oz : O32 w9.drew base (some ⟨gl, ol, none⟩) cap xs := O9.old ((Below.refl _ _).drew)
              have belz : Below w.heap.size w w9.drew := bel9.trans ((Below.refl _ _).drew)
              have szz : base ≤ w9.drew.heap.size := sz9
              generalize w9.drew = wz at rNz rBz Oz belz szz ⊢
              clear rN9 rB9 O9 bel9 sz9
              clear w9
              refine h_take 0 (.agg (wcs M u pd).toArray) rfl 78 rfl (by kernel_rfl) (by kernel_rfl) (by kernel_rfl) (by kernel_rfl) (fun _ _ _ h => h) (fun w' hC => run_op_load _ _ rfl N 0 rfl (wcs M u pd) (row_all hC) (sz_win HPL.out)) rNz ?_
              simp only [Act.put, List.setIfInBounds_toArray, List.set_cons_zero, List.set_cons_succ]
              refine h_take 1 (.slice (some ⟨gl, ol, none⟩) xs.length cap) rfl 79 rfl (by kernel_rfl) (by kernel_rfl) (by kernel_rfl) (by kernel_rfl) (fun _ _ _ h => h) (fun w' _ => by kernel_rfl) rNz ?_
              simp only [Act.put, List.setIfInBounds_toArray, List.set_cons_zero, List.set_cons_succ]
              refine h_take 2 (.int .u32 (s : Int)) rfl 80 rfl (by kernel_rfl) (by kernel_rfl) (by kernel_rfl) (by kernel_rfl) (fun _ _ _ h => h) (fun w' _ => by kernel_rfl) rNz ?_
              simp only [Act.put, List.setIfInBounds_toArray, List.set_cons_zero, List.set_cons_succ]
              refine h_one (i := 3) (by kernel_rfl) (o_value _ rfl 81 rfl (by kernel_rfl) (run_op_one32 _ rfl s (by simp only [List.map_toArray, List.map_cons, List.map_nil]; rfl)) ?_)
              have hN2 := new_alloc wz (.cells (u32s [s]).toArray 22)
              have rS2 : Row (wz.alloc (.cells (u32s [s]).toArray 22)) wz.heap.size 22 (u32s [s]) := heap_alloc_new _ _
              generalize wz.alloc (.cells (u32s [s]).toArray 22) = y2 at hN2 rS2 ⊢
              have rN2 := rNz.old hN2.below
              refine ⟨rN2, ?_⟩
              have rB2 := rBz.old hN2.below
              have O2 := Oz.old hN2.below
              have bel2 := below_step belz belz.size hN2.below
              have sz2 := Nat.le_trans szz hN2.below.size
              clear rNz rBz Oz belz szz hN2
              generalize wz.heap.size = S2 at rS2 ⊢
              clear wz
              simp only [Act.put, List.setIfInBounds_toArray, List.set_cons_zero, List.set_cons_succ]
              refine h_one (i := 4) (by kernel_rfl) (o_append32 rfl 82 rfl (by kernel_rfl) _ _ rfl base (some ⟨gl, ol, none⟩) xs.length cap xs rfl rfl O2 S2 1 1 [s] rfl rfl (row_all rS2) (by have := HSX.out; simp only [List.length_cons, List.length_nil]; omega) sz2 ?_)
              intro p3 cap3 y3 O3 b3 k3
              have rN3 := k3 N _ _ (by decide) rN2
              have rB3 := k3 B _ _ (by decide) rB2
              refine ⟨rN3, ?_⟩
              have bel3 := bel2.trans (b3.mono lbs)
              have sz3 := Nat.le_trans sz2 b3.size
              clear rS2 rN2 rB2 O2 bel2 sz2 b3 k3
              clear y2
              simp only [Act.put, List.setIfInBounds_toArray, List.set_cons_zero, List.set_cons_succ]
              refine h_one (i := 5) (by kernel_rfl) (o_skip rfl rfl (by kernel_rfl) (run_op_store _ _ _ rfl B 0 rfl (wcs M u pd) rfl _ _ rB3 (by rw [wcs_len HPL.out, wcs_len HDL.out]; omega) (wcs_one _ _ _) (sz_win HPL.out)) ?_)
              have rB4 : Row _ B 27 (wcs M u pd) := (row_setRow rB3 (lay (wcs M L ds) 0 (wcs M u pd))).congr (lay_all _ _ (by rw [wcs_len HPL.out, wcs_len HDL.out]))
              have o4 := Only.setRow B y3 (lay (wcs M L ds) 0 (wcs M u pd)).toArray
              generalize y3.setRow B (lay (wcs M L ds) 0 (wcs M u pd)).toArray = y4 at rB4 o4 ⊢
              have rN4 := rN3.only o4 NNB.out
              refine ⟨rN4, ?_⟩
              have O4 := O3.only o4 ltB
              have bel4 := below_only bel3 o4 lB bel3.size
              have sz4 := Nat.le_trans sz3 o4.size
              clear rN3 rB3 O3 bel3 sz3 o4
              clear y3
              refine h_take 6 (.slice p3 (xs ++ [s]).length cap3) rfl 4 rfl (by kernel_rfl) (by kernel_rfl) (by kernel_rfl) (by kernel_rfl) (fun _ _ _ h => h) (fun w' _ => by kernel_rfl) rN4 ?_
              simp only [Act.put, List.setIfInBounds_toArray, List.set_cons_zero, List.set_cons_succ]
              refine wpAnyH_done (by kernel_rfl) ?_ _
              have hxl2 : (xs ++ [s]).length ≤ k + 2 := by rw [List.length_append, List.length_singleton]; omega
              generalize xs ++ [s] = xs2 at HN O4 hxl2 ⊢
              clear rN4 HH HDL HM HSX hxl
              go_wp2_with fail
              go_roundw
              case rel => exact ⟨⟨k + 1, cap3, u, M, p3, xs2, pd, by omega, by go_num, rfl, rfl, by omega, HN.out, HWN.out, O4, rB4⟩, bel4, sz4⟩
              case measure => simp [intOf]; omega
        · refine (later_over z y _ hlb hyb (by omega)).mono ?_
          rintro e w6 ⟨rfl, rfl⟩
          clear hcs hcl
          go_wp2_with fail
          go_roundw
          case rel => exact ⟨⟨k + 1, cap, L, M, _, xs, ds, by omega, by go_num, rfl, rfl, by omega, HH.out, HW.out, hO, hRB⟩, hbel, hsz⟩
          case measure => simp [intOf]; omega
      · obtain rfl : k = st.length := by omega
        have ik : decide ((st.length : Int) < (st.length : Int)) = false := decide_eq_false (by omega)
        clear hH
        go_wp2_with fail
        go_ret
        exact ⟨rfl, hbel⟩
  · have hd : decide ((200 : Int) < (st.length : Int)) = true := decide_eq_true (by omega)
    go_wp2_with fail
    go_ret
    exact ⟨rfl, hB1⟩
end Go.Proofs.Ytbbmjjphkmjnbaa.Wn
