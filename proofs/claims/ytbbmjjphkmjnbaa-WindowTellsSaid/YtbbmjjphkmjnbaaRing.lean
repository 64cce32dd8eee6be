/-
  The contracts of package ring's functions over this seat's translation.
-/
import Derived.Test.YtbbmjjphkmjnbaaRingSpec
namespace Go.Proofs.Ytbbmjjphkmjnbaa.Rg
open Go.ChangeShapes Go.WideShapes Go.ChangeAt Go.RowKit Go.Proofs.Ytbbmjjphkmjnbaa.Mem Go.Proofs.Ytbbmjjphkmjnbaa.Bt
set_option linter.unusedVariables false
set_option linter.unusedSimpArgs false

/-- Two results, the first of which lies in a variable of its own. -/
theorem result_row2 {P : Program} {fn : Func} {p u : Tmp} {ty : TypeId} (h : fn.results = #[.cell p ty, .tmp u]) (tmps : Array Value) (w : World) (b : Nat) (t : TypeId) (cs : List Value) (v : Value)
    (hp : tmps.getD p undef = .pointer (some ⟨b, 0, none⟩)) (hu : tmps.getD u undef = v) (hr : Row w b t cs) (hs : Sized P ty cs.length) : (results fn tmps).run P w = .ok (.tuple #[.agg cs.toArray, v]) w := by
  obtain ⟨d, hud, hd, hi⟩ := hs
  have hp' : tmps[p]?.getD undef = .pointer (some ⟨b, 0, none⟩) := by simpa using hp
  have hu' : tmps[u]?.getD undef = v := by simpa using hu
  have hl := run_loadVar_row (P := P) w b t ty cs.toArray (0, 0) d hr hud (by cases d <;> first | rfl | cases hd) (by simpa using hi)
  simp [results, h, hp', hu', asAddr, hl]
theorem z_len : (rcs 0 [0, 0, 0, 0]).length = 5 := rfl
theorem genesis_any (w : World) : Calls Try.prog 19 #[] w fun e w' => e = .returned (.agg (rcs 0 [1, 3, 3, 3]).toArray) ∧ Below w.heap.size w w' := by
  go_enter Try.func19, Try.ntmps19
  go_wp2_with (first
    | ((with_reducible refine at_slot 0 ?_); (refine arm_alloc (o := ⟨some 0, _, _, _, _, _⟩) rfl _ rfl (rcs 0 [0, 0, 0, 0]) z_ring ?_); intro R w1 hRe hR1 hN1)
    | ((with_reducible refine at_slot 1 ?_); (refine arm_build (o := ⟨some 1, _, _, _, _, _⟩) rfl _ _ rfl (u32s [1, 3, 3, 3]) (by kernel_rfl) ?_))
    | ((with_reducible refine at_slot 2 ?_); (refine arm_build (o := ⟨some 2, _, _, _, _, _⟩) rfl _ _ rfl (rcs 0 [1, 3, 3, 3]) (by kernel_rfl) ?_))
    | ((with_reducible refine arm_store (o := ⟨none, _, _, _, _, _⟩) rfl _ _ _ rfl R 0 rfl (rcs 0 [1, 3, 3, 3]) rfl _ _ hR1 (by rw [rcs_len rfl, rcs_len rfl]; omega) (rcs_one _ _) (sz_ring' rfl) ?_); intro w2 hR2 hO2 hS2))
  have eR := hRe.out
  refine bodyPost_ret (v := .agg (rcs 0 [1, 3, 3, 3]).toArray) (result_row (p := 0) (ty := 25) (u := 25) (by kernel_rfl) _ w2 R _ rfl (hR2.congr (lay_all _ _ (by rw [rcs_len rfl, rcs_len rfl]))) (sz_ring' rfl)) rfl ⟨rfl, below_only hN1.below hO2 (by omega) (by rw [hN1.size]; omega)⟩

/-! ### Right. -/
structure MnRel (w : World) (L : Nat) (cs : List Nat) (B R : Nat) (i : Value) (wr : World) : Prop where
  ex : ∃ k : Nat, k ≤ 4 ∧ i = .int .i64 k ∧ Row wr B 25 (rcs L (mn k cs))
  res : Row wr R 25 (rcs 0 [0, 0, 0, 0])
  bel : Below w.heap.size w wr
theorem num_le3 (x : Nat) : (if (3 : Int) < (x : Int) then (3 : Int) else (x : Int)) = ((min x 3 : Nat) : Int) := by split <;> omega
theorem num_ge1 (x : Nat) : (if (x : Int) < (1 : Int) then (1 : Int) else (x : Int)) = ((max x 1 : Nat) : Int) := by split <;> omega
set_option maxHeartbeats 1000000 in
set_option maxRecDepth 100000 in
theorem mended_any (L : Nat) (cs : List Nat) (w : World) (hL : L < 4294967296) (hc : AllLt 4294967296 cs) (hl : cs.length = 4) :
    Calls Try.prog 29 #[.agg (rcs L cs).toArray] w fun e w' => e = .returned (.agg (rcs L (mend L cs)).toArray) ∧ Below w.heap.size w w' := by
  have HL := Lib.hid hl; have HC := Lib.hid hc; clear hl hc
  go_enter Try.func29, Try.ntmps29
  go_wp2_with (first
    | ((with_reducible refine at_slot 1 ?_); (refine arm_box (o := ⟨some 1, _, _, _, _, _⟩) rfl _ _ rfl (rcs L cs) rfl ?_); intro B w1 hBe hR1 hN1)
    | ((with_reducible refine at_slot 2 ?_); (refine arm_alloc (o := ⟨some 2, _, _, _, _, _⟩) rfl _ rfl (rcs 0 [0, 0, 0, 0]) z_ring ?_); intro R w2 hRe hR2 hN2)
    | ((with_reducible refine at_slot 7 ?_); (refine arm_load (o := ⟨some 7, _, _, _, _, _⟩) rfl _ _ rfl B 1 rfl (u32s cs) (row_counts (hR1.old hN2.below)) (sz_arr' HL.out) ?_)))
  have eB := hBe.out; have eR := hRe.out; have s1 := hN1.size; have s2 := hN2.size
  have h0 : MnRel w L cs B R (.int .i64 0) w2 := ⟨⟨0, by omega, rfl, by rw [mn_zero]; exact hR1.old hN2.below⟩, hR2, below_step hN1.below (by omega) hN2.below⟩
  have lB : w.heap.size ≤ B := by omega
  have lR : w.heap.size ≤ R := by omega
  have nBR : B ≠ R := by omega
  have NBR := Lib.hid nBR
  clear eB eR s1 s2 hBe hRe hR1 hR2 hN1 hN2 w1 nBR
  go_loopw [8] (fun i wr => MnRel w L cs B R i wr) (fun i _ => 4 - (intOf i).toNat)
  case atStart => exact h0
  case round =>
    clear h0
    obtain ⟨⟨k, hk, rfl, hRB⟩, hRR, hbel⟩ := hrel
    by_cases hlt : k < 4
    · have HX : ∃ x : Nat, x = cs.getD k 0 := ⟨_, rfl⟩
      obtain ⟨x, hx⟩ := HX
      have hxg : (u32s cs)[k]? = some (.int .u32 (x : Int)) := by rw [hx]; exact u32s_get (by rw [HL.out]; exact hlt)
      have HXK := Lib.hid hx; have HXG := Lib.hid hxg; clear hx hxg
      have ik : (k : Int) < 4 := by omega
      go_wp2_with (first
        | ((with_reducible refine at_slot 11 ?_); (refine arm_index (o := ⟨some 11, _, _, _, _, _⟩) rfl _ _ _ rfl 4 22 (by kernel_rfl) .u32 (by kernel_rfl) (by kernel_rfl) (u32s cs) rfl .i64 k rfl hlt _ HXG.out ?_))
        | ((with_reducible refine at_slot 14 ?_); (refine arm_min (o := ⟨some 14, _, _, _, _, _⟩) rfl _ _ _ rfl .u32 (x : Int) 3 rfl rfl (min x 3) (num_le3 x) ?_))
        | ((with_reducible refine arm_store1 (o := ⟨none, _, _, _, _, _⟩) rfl _ _ _ rfl B (1 + k) rfl .u32 ((min x 3 : Nat) : Int) rfl (by kernel_rfl) _ _ hRB (by rw [rcs_len (mn_len HL.out hk)]; omega) ?_); intro w3 hR3 hO3 hS3))
      go_roundw
      case rel => exact ⟨⟨k + 1, by omega, by go_num, hR3.congr (by rw [rcs_set, HXK.out, mn_step HL.out hlt])⟩, hRR.only hO3 (Ne.symm NBR.out), below_only hbel hO3 lB hbel.size⟩
      case measure => simp [intOf]; omega
    · obtain rfl : k = 4 := by omega
      have cB0 := hRB.cell (rcs_get0 L (mn 4 cs))
      go_wp2_with fail
      refine (ringB_any L wr hL).mono ?_
      rintro e w3 ⟨rfl, hN3⟩
      have hRB3 := hRB.old hN3
      have hRR3 := hRR.old hN3
      have bel3 : Below w.heap.size w w3 := below_step hbel hbel.size hN3
      clear cB0 hRB hRR hN3 hbel wr
      have HX : ∃ x : Nat, x = cs.getD (L % 4) 0 := ⟨_, rfl⟩
      obtain ⟨x, hx⟩ := HX
      have hj : L % 4 < 4 := by omega
      have ME : Hid ((mn 4 cs).set (L % 4) (max (min x 3) 1) = mend L cs) := by unfold mend; rw [hx]; exact rfl
      generalize L % 4 = j at hx hj ME ⊢
      have cBj := hRB3.cell (rcs_get (L := L) (cs := mn 4 cs) (i := j) (by rw [mn_len HL.out (by omega)]; exact hj))
      rw [mn_all HL.out hj, ← hx] at cBj
      clear hx
      have ij : (j : Int) < 4 := by omega
      go_wp2_with (first
        | ((with_reducible refine at_slot 26 ?_); (refine arm_max (o := ⟨some 26, _, _, _, _, _⟩) rfl _ _ _ rfl .u32 ((min x 3 : Nat) : Int) 1 rfl rfl (max (min x 3) 1) (num_ge1 _) ?_))
        | ((with_reducible refine arm_store1 (o := ⟨none, _, _, _, _, _⟩) rfl _ _ _ rfl B (1 + j) rfl .u32 ((max (min x 3) 1 : Nat) : Int) rfl (by kernel_rfl) _ _ hRB3 (by rw [rcs_len (mn_len HL.out (by omega))]; omega) ?_); intro w4 hR4 hO4 hS4)
        | ((with_reducible refine at_slot 29 ?_); (refine arm_load (o := ⟨some 29, _, _, _, _, _⟩) rfl _ _ rfl B 0 rfl (rcs L (mend L cs)) (row_all (hR4.congr (by rw [rcs_set, ME.out]))) (sz_ring' (mend_len HL.out)) ?_))
        | ((with_reducible refine arm_store (o := ⟨none, _, _, _, _, _⟩) rfl _ _ _ rfl R 0 rfl (rcs L (mend L cs)) rfl _ _ (hRR3.only hO4 (Ne.symm NBR.out)) (by rw [rcs_len (mend_len HL.out), z_len]; omega) (rcs_one _ _) (sz_ring' (mend_len HL.out)) ?_); intro w5 hR5 hO5 hS5))
      refine bodyPost_ret (v := .agg (rcs L (mend L cs)).toArray) (result_row (p := 2) (ty := 25) (u := 25) (by kernel_rfl) _ w5 R _ rfl (hR5.congr (lay_all _ _ (by rw [rcs_len (mend_len HL.out), z_len]))) (sz_ring' (mend_len HL.out))) rfl ⟨rfl, below_only (below_only bel3 hO4 lB bel3.size) hO5 lR (Nat.le_trans bel3.size hO4.size)⟩
theorem eq_mend (L : Nat) {cs : List Nat} (h : cs.length = 4) : decide (L = L ∧ cs = mend L cs) = decide (Rt L cs) := decide_eq_decide.2 (by rw [← mend_rt h]; exact ⟨fun h => h.2, fun h => ⟨rfl, h⟩⟩)
theorem right_any (L : Nat) (cs : List Nat) (w : World) (hL : L < 4294967296) (hc : AllLt 4294967296 cs) (hl : cs.length = 4) :
    Calls Try.prog 20 #[.agg (rcs L cs).toArray] w fun e w' => e = .returned (.bool (decide (Rt L cs))) ∧ Below w.heap.size w w' := by
  have HL := Lib.hid hl; have HC := Lib.hid hc; clear hl hc
  obtain ⟨v, hv⟩ : ∃ v : Bool, v = decide (Rt L cs) := ⟨_, rfl⟩
  rw [← hv]
  have HV := Lib.hid hv.symm; clear hv
  go_enter Try.func20, Try.ntmps20
  go_wp2_with (first
    | ((with_reducible refine at_slot 1 ?_); (refine arm_box (o := ⟨some 1, _, _, _, _, _⟩) rfl _ _ rfl (rcs L cs) rfl ?_); intro B w1 hBe hR1 hN1))
  refine wp_region_held (S := fun w' => Below w1.drew.heap.size w1.drew w') (by kernel_rfl) ?_
  change wpAnyH _ _ _ _ _ _ _ _ w1.drew
  have hRz : Row w1.drew B 25 (rcs L cs) := hR1
  have belz : Below w.heap.size w w1.drew := hN1.below.trans ((Below.refl _ _).drew)
  generalize w1.drew = wz at belz hRz ⊢
  clear hR1 hN1 hBe w1
  have hS : Below wz.heap.size wz wz := Below.refl _ _
  refine h_take 0 (.agg (rcs L cs).toArray) rfl 3 rfl (by kernel_rfl) (by kernel_rfl) (by kernel_rfl) (by kernel_rfl) (fun _ _ _ h => h) (fun w' hC => run_op_load _ _ rfl B 0 rfl (rcs L cs) (row_all (hRz.old hC)) (sz_ring' HL.out)) hS ?_
  simp only [Act.put, List.setIfInBounds_toArray, List.set_cons_zero, List.set_cons_succ]
  refine h_take 1 (.agg (rcs L cs).toArray) rfl 4 rfl (by kernel_rfl) (by kernel_rfl) (by kernel_rfl) (by kernel_rfl) (fun _ _ _ h => h) (fun w' hC => run_op_load _ _ rfl B 0 rfl (rcs L cs) (row_all (hRz.old hC)) (sz_ring' HL.out)) hS ?_
  simp only [Act.put, List.setIfInBounds_toArray, List.set_cons_zero, List.set_cons_succ]
  refine h_one (i := 2) (by kernel_rfl) (o_call rfl 5 rfl (by kernel_rfl) (run_op_call 29 _ _ rfl #[.agg (rcs L cs).toArray] (by simp only [List.map_toArray, List.map_cons, List.map_nil]; rfl) Try.func29 (by kernel_rfl) (by kernel_rfl) _) (mended_any L cs _ hL HC.out HL.out) ?_)
  rintro e y1 ⟨rfl, hB1⟩
  have hS1 : Below wz.heap.size wz y1 := below_step hS hS.size hB1
  refine ⟨_, rfl, hS1, ?_⟩
  clear hB1
  simp only [Act.put, List.setIfInBounds_toArray, List.set_cons_zero, List.set_cons_succ]
  refine h_take 3 (.bool v) rfl 6 rfl (by kernel_rfl) (by kernel_rfl) (by kernel_rfl) (by kernel_rfl) (fun _ _ _ h => h) (fun w' _ => (run_op_eqlR _ _ _ rfl L L cs (mend L cs) HL.out (mend_len HL.out) rfl rfl w').trans (by rw [eq_mend L HL.out, HV.out])) hS1 ?_
  simp only [Act.put, List.setIfInBounds_toArray, List.set_cons_zero, List.set_cons_succ]
  refine h_take 4 (.bool v) rfl 2 rfl (by kernel_rfl) (by kernel_rfl) (by kernel_rfl) (by kernel_rfl) (fun _ _ _ h => h) (fun w' _ => by kernel_rfl) hS1 ?_
  simp only [Act.put, List.setIfInBounds_toArray, List.set_cons_zero, List.set_cons_succ]
  refine wpAnyH_done (by kernel_rfl) ?_ _
  have belF := below_step belz belz.size hS1
  go_wp2_with fail
  go_ret
  exact ⟨rfl, belF⟩

/-! ### moved. -/
def lastOf (w : World) (b : Nat) : Nat := match w.cell? ⟨b, 0, none⟩ with
  | some v => (intOf v).toNat
  | none => 0
theorem lastOf_row {w : World} {b L : Nat} {t : TypeId} {cs : List Nat} (h : Row w b t (rcs L cs)) : lastOf w b = L := by
  unfold lastOf
  rw [h.cell (rcs_get0 L cs)]
  simp [intOf]
structure MvRel (w : World) (L s : Nat) (cs : List Nat) (B R : Nat) (wr : World) : Prop where
  ex : ∃ m : Nat, L ≤ m ∧ m ≤ s ∧ Row wr B 25 (rcs m (mvd L cs m))
  res : Row wr R 25 (rcs 0 [0, 0, 0, 0])
  bel : Below w.heap.size w wr
theorem zero32 (w : World) : (zeroValue 22).run Try.prog w = .ok (.int .u32 0) w := by kernel_rfl
theorem lay_zero (L : Nat) {cs : List Nat} (h : cs.length = 4) : lay (rcs L cs) 1 (List.replicate (3 + 1) (.int .u32 0)) = rcs L [0, 0, 0, 0] := by
  obtain ⟨a, b, c, d, rfl⟩ := four h
  rfl
set_option maxHeartbeats 1000000 in
set_option maxRecDepth 100000 in
theorem moved_any (L s : Nat) (cs : List Nat) (w : World) (hL : L ≤ s) (hs : s < 4294967296) (hl : cs.length = 4) :
    Calls Try.prog 34 #[.agg (rcs L cs).toArray, .int .u32 (s : Int)] w fun e w' => e = .returned (.agg (rcs s (mvd L cs s)).toArray) ∧ Below w.heap.size w w' := by
  have HL := Lib.hid hl; clear hl
  have hw : ((s : Int) - (L : Int)) % 4294967296 = (s : Int) - (L : Int) := by omega
  by_cases hfar : L + 4 ≤ s
  · have hd : decide ((4 : Int) ≤ (s : Int) - (L : Int)) = true := decide_eq_true (by omega)
    go_enter Try.func34, Try.ntmps34
    go_wp2_with (first
      | ((with_reducible refine at_slot 2 ?_); (refine arm_box (o := ⟨some 2, _, _, _, _, _⟩) rfl _ _ rfl (rcs L cs) rfl ?_); intro B w1 hBe hR1 hN1)
      | ((with_reducible refine at_slot 4 ?_); (refine arm_alloc (o := ⟨some 4, _, _, _, _, _⟩) rfl _ rfl (rcs 0 [0, 0, 0, 0]) z_ring ?_); intro R w2 hRe hR2 hN2; have cB := (hR1.old hN2.below).cell (rcs_get0 L cs))
      | ((with_reducible refine at_slot 11 ?_); (refine arm_sliceAll (o := ⟨some 11, _, _, _, _, _⟩) rfl _ _ rfl 4 22 (by kernel_rfl) (by kernel_rfl) B 1 rfl (by omega) ?_))
      | ((with_reducible refine arm_clear (o := ⟨none, _, _, _, _, _⟩) rfl _ _ rfl 22 (by kernel_rfl) (.int .u32 0) zero32 rfl rfl B 1 3 4 rfl _ _ (hR1.old hN2.below) (by rw [rcs_len HL.out]; omega) ?_); intro w3 hR3 hO3 hS3)
      | ((with_reducible refine arm_store1 (o := ⟨none, _, _, _, _, _⟩) rfl _ _ _ rfl B 0 rfl .u32 (s : Int) rfl (by kernel_rfl) _ _ (hR3.congr (lay_zero L HL.out)) (by rw [rcs_len rfl]; omega) ?_); intro w4 hR4 hO4 hS4))
    have eB := hBe.out; have eR := hRe.out; have s1 := hN1.size; have s2 := hN2.size; have s3 := hS3.out; have s4 := hS4.out
    have nBR : B ≠ R := by omega
    have lB : w.heap.size ≤ B := by omega
    have lR : w.heap.size ≤ R := by omega
    have bel2 : Below w.heap.size w w2 := below_step hN1.below (by omega) hN2.below
    have h0 : MvRel w L s cs B R w4 := ⟨⟨s, hL, by omega, by rw [mvd_far hfar]; exact hR4.congr (rcs_set0 _ _ _)⟩, (hR2.only hO3 (Ne.symm nBR)).only hO4 (Ne.symm nBR), below_only (below_only bel2 hO3 lB (by omega)) hO4 lB (by omega)⟩
    have NBR := Lib.hid nBR
    clear eB eR s1 s2 s3 s4 hBe hRe hR1 hR2 hR3 hR4 hN1 hN2 hO3 hO4 hS3 hS4 nBR bel2 cB w1 w2 w3
    simp only [Act.put]
    go_loopw [] (fun wr => MvRel w L s cs B R wr) (fun wr => s - lastOf wr B)
    case atStart => exact h0
    case round =>
      clear h0
      obtain ⟨⟨m, hm1, hm2, hRB⟩, hRR, hbel⟩ := hrel
      have cB0 := hRB.cell (rcs_get0 m (mvd L cs m))
      by_cases hlt : m < s
      · have ilt : decide ((m : Int) < (s : Int)) = true := decide_eq_true (by omega)
        have hml := mvd_len L cs m
        have HST := Lib.hid (mvd_step (cs := cs) hm1)
        have HLO := Lib.hid (lastOf_row hRB)
        generalize mvd L cs m = ds at hRB cB0 hml HST
        have HML := Lib.hid hml; clear hml
        have hwm : ((m : Int) + 1) % 4294967296 = ((m + 1 : Nat) : Int) := by omega
        go_wp2_with (first
          | ((with_reducible refine arm_store1 (o := ⟨none, _, _, _, _, _⟩) rfl _ _ _ rfl B 0 rfl .u32 _ rfl (by kernel_rfl) _ _ hRB (by rw [rcs_len HML.out]; omega) ?_); intro w5 hR5 hO5 hS5; have hRB5 : Row w5 B 25 (rcs (m + 1) ds) := hR5.congr (by rw [← rcs_set0 m (m + 1) ds]; congr 2; try omega); clear cB0; have cB5 := hRB5.cell (rcs_get0 (m + 1) ds)))
        refine (ringB_any (m + 1) _ (by omega)).mono ?_
        rintro e w6 ⟨rfl, hN6⟩
        have hRB6 := hRB5.old hN6
        have hRR6 := (hRR.only hO5 (Ne.symm NBR.out)).old hN6
        have bel6 : Below w.heap.size w w6 := below_step (below_only hbel hO5 lB hbel.size) (Nat.le_trans hbel.size hO5.size) hN6
        clear hRB hRR hbel hR5 hO5 hS5 cB5 hN6 hRB5 w5
        have hj : (m + 1) % 4 < 4 := by omega
        generalize hjj : (m + 1) % 4 = j at hj HST ⊢
        clear hjj
        have ij : (j : Int) < 4 := by omega
        go_wp2_with (first
          | ((with_reducible refine arm_store1 (o := ⟨none, _, _, _, _, _⟩) rfl _ _ _ rfl B (1 + j) rfl .u32 0 rfl (by kernel_rfl) _ _ hRB6 (by rw [rcs_len HML.out]; omega) ?_); intro w7 hR7 hO7 hS7))
        have hRB7 : Row w7 B 25 (rcs (m + 1) (mvd L cs (m + 1))) := hR7.congr (by rw [← HST.out]; exact rcs_set (m + 1) j 0 ds)
        simp only [Act.put]
        go_roundw
        case rel => exact ⟨⟨m + 1, by omega, by omega, hRB7⟩, hRR6.only hO7 (Ne.symm NBR.out), below_only bel6 hO7 lB bel6.size⟩
        case measure => rw [lastOf_row hRB7, HLO.out]; omega
      · obtain rfl : m = s := by omega
        have HML := Lib.hid (mvd_len L cs m)
        go_wp2_with (first
          | ((with_reducible refine at_slot 27 ?_); (refine arm_load (o := ⟨some 27, _, _, _, _, _⟩) rfl _ _ rfl B 0 rfl (rcs m (mvd L cs m)) (row_all hRB) (sz_ring' HML.out) ?_))
          | ((with_reducible refine arm_store (o := ⟨none, _, _, _, _, _⟩) rfl _ _ _ rfl R 0 rfl (rcs m (mvd L cs m)) rfl _ _ hRR (by rw [rcs_len HML.out, z_len]; omega) (rcs_one _ _) (sz_ring' HML.out) ?_); intro w5 hR5 hO5 hS5))
        refine bodyPost_ret (v := .agg (rcs m (mvd L cs m)).toArray) (result_row (p := 4) (ty := 25) (u := 25) (by kernel_rfl) _ w5 R _ rfl (hR5.congr (lay_all _ _ (by rw [rcs_len HML.out, z_len]))) (sz_ring' HML.out)) rfl ⟨rfl, below_only hbel hO5 lR hbel.size⟩
  · have hd : decide ((4 : Int) ≤ (s : Int) - (L : Int)) = false := decide_eq_false (by omega)
    go_enter Try.func34, Try.ntmps34
    go_wp2_with (first
      | ((with_reducible refine at_slot 2 ?_); (refine arm_box (o := ⟨some 2, _, _, _, _, _⟩) rfl _ _ rfl (rcs L cs) rfl ?_); intro B w1 hBe hR1 hN1)
      | ((with_reducible refine at_slot 4 ?_); (refine arm_alloc (o := ⟨some 4, _, _, _, _, _⟩) rfl _ rfl (rcs 0 [0, 0, 0, 0]) z_ring ?_); intro R w2 hRe hR2 hN2; have cB := (hR1.old hN2.below).cell (rcs_get0 L cs)))
    have eB := hBe.out; have eR := hRe.out; have s1 := hN1.size; have s2 := hN2.size
    have nBR : B ≠ R := by omega
    have lB : w.heap.size ≤ B := by omega
    have lR : w.heap.size ≤ R := by omega
    have bel2 : Below w.heap.size w w2 := below_step hN1.below (by omega) hN2.below
    have h0 : MvRel w L s cs B R w2 := ⟨⟨L, by omega, hL, by rw [mvd_self HL.out]; exact hR1.old hN2.below⟩, hR2, bel2⟩
    have NBR := Lib.hid nBR
    clear eB eR s1 s2 hBe hRe hR1 hR2 hN1 hN2 nBR bel2 cB w1
    go_loopw [] (fun wr => MvRel w L s cs B R wr) (fun wr => s - lastOf wr B)
    case atStart => exact h0
    case round =>
      clear h0
      obtain ⟨⟨m, hm1, hm2, hRB⟩, hRR, hbel⟩ := hrel
      have cB0 := hRB.cell (rcs_get0 m (mvd L cs m))
      by_cases hlt : m < s
      · have ilt : decide ((m : Int) < (s : Int)) = true := decide_eq_true (by omega)
        have hml := mvd_len L cs m
        have HST := Lib.hid (mvd_step (cs := cs) hm1)
        have HLO := Lib.hid (lastOf_row hRB)
        generalize mvd L cs m = ds at hRB cB0 hml HST
        have HML := Lib.hid hml; clear hml
        have hwm : ((m : Int) + 1) % 4294967296 = ((m + 1 : Nat) : Int) := by omega
        go_wp2_with (first
          | ((with_reducible refine arm_store1 (o := ⟨none, _, _, _, _, _⟩) rfl _ _ _ rfl B 0 rfl .u32 _ rfl (by kernel_rfl) _ _ hRB (by rw [rcs_len HML.out]; omega) ?_); intro w5 hR5 hO5 hS5; have hRB5 : Row w5 B 25 (rcs (m + 1) ds) := hR5.congr (by rw [← rcs_set0 m (m + 1) ds]; congr 2; try omega); clear cB0; have cB5 := hRB5.cell (rcs_get0 (m + 1) ds)))
        refine (ringB_any (m + 1) _ (by omega)).mono ?_
        rintro e w6 ⟨rfl, hN6⟩
        have hRB6 := hRB5.old hN6
        have hRR6 := (hRR.only hO5 (Ne.symm NBR.out)).old hN6
        have bel6 : Below w.heap.size w w6 := below_step (below_only hbel hO5 lB hbel.size) (Nat.le_trans hbel.size hO5.size) hN6
        clear hRB hRR hbel hR5 hO5 hS5 cB5 hN6 hRB5 w5
        have hj : (m + 1) % 4 < 4 := by omega
        generalize hjj : (m + 1) % 4 = j at hj HST ⊢
        clear hjj
        have ij : (j : Int) < 4 := by omega
        go_wp2_with (first
          | ((with_reducible refine arm_store1 (o := ⟨none, _, _, _, _, _⟩) rfl _ _ _ rfl B (1 + j) rfl .u32 0 rfl (by kernel_rfl) _ _ hRB6 (by rw [rcs_len HML.out]; omega) ?_); intro w7 hR7 hO7 hS7))
        have hRB7 : Row w7 B 25 (rcs (m + 1) (mvd L cs (m + 1))) := hR7.congr (by rw [← HST.out]; exact rcs_set (m + 1) j 0 ds)
        simp only [Act.put]
        go_roundw
        case rel => exact ⟨⟨m + 1, by omega, by omega, hRB7⟩, hRR6.only hO7 (Ne.symm NBR.out), below_only bel6 hO7 lB bel6.size⟩
        case measure => rw [lastOf_row hRB7, HLO.out]; omega
      · obtain rfl : m = s := by omega
        have HML := Lib.hid (mvd_len L cs m)
        go_wp2_with (first
          | ((with_reducible refine at_slot 27 ?_); (refine arm_load (o := ⟨some 27, _, _, _, _, _⟩) rfl _ _ rfl B 0 rfl (rcs m (mvd L cs m)) (row_all hRB) (sz_ring' HML.out) ?_))
          | ((with_reducible refine arm_store (o := ⟨none, _, _, _, _, _⟩) rfl _ _ _ rfl R 0 rfl (rcs m (mvd L cs m)) rfl _ _ hRR (by rw [rcs_len HML.out, z_len]; omega) (rcs_one _ _) (sz_ring' HML.out) ?_); intro w5 hR5 hO5 hS5))
        refine bodyPost_ret (v := .agg (rcs m (mvd L cs m)).toArray) (result_row (p := 4) (ty := 25) (u := 25) (by kernel_rfl) _ w5 R _ rfl (hR5.congr (lay_all _ _ (by rw [rcs_len HML.out, z_len]))) (sz_ring' HML.out)) rfl ⟨rfl, below_only hbel hO5 lR hbel.size⟩
end Go.Proofs.Ytbbmjjphkmjnbaa.Rg
