/-
  The contract of the document's Put over this seat's translation.
-/
import Derived.Test.YtbbmjjphkmjnbaaRingRef
namespace Go.Proofs.Ytbbmjjphkmjnbaa.Rg
open Go.ChangeShapes Go.WideShapes Go.ChangeAt Go.RowKit Go.Proofs.Ytbbmjjphkmjnbaa.Mem Go.Proofs.Ytbbmjjphkmjnbaa.Bt
set_option linter.unusedVariables false
set_option linter.unusedSimpArgs false

theorem run_op_indexA {P : Program} {o : Oper} {a : Act} (t : TypeId) (x ix : Operand) (ho : o.op = .indexAddr t x ix) (n : Nat) (e : TypeId) (hu : P.underlying t = some (.array n e)) (hse : (P.info? e).map (·.size) = some 1)
    (g off : Nat) (hx : a.eval x = .pointer (some ⟨g, off, none⟩)) (kk : IntKind) (k : Nat) (hi : a.eval ix = .int kk (k : Int)) (hk : k < n) (w : World) : (execOp a.eval o).run P w = .ok (.value (.pointer (some ⟨g, off + k, none⟩))) w := by
  cases hq : P.info? e with
  | none => simp [hq] at hse
  | some ie =>
    have hs : ie.size = 1 := by simpa [hq] using hse
    have h3 : (⟨g, off, none⟩ : Addr).add k = ⟨g, off + k, none⟩ := Addr.add_mid g off k
    unfold execOp
    simp [ho, hx, hi, Instr.indexAt, asIntOf, run_underlying hu, sizeOf, typeInfo, hq, hs, hk, h3, Instr.sureAddr]
set_option maxHeartbeats 1000000 in
set_option maxRecDepth 100000 in
theorem rput_early (L sub : Nat) (cs : List Nat) (w : World) (h : sub < L) (hl : cs.length = 4) :
    Calls Try.prog 26 #[.agg (rcs L cs).toArray, .int .u32 (sub : Int)] w fun e w' => e = .returned (.tuple #[.agg (rcs 0 [0, 0, 0, 0]).toArray, .int .i64 6]) ∧ Below w.heap.size w w' := by
  have HL := Lib.hid hl; clear hl
  have hd : decide ((sub : Int) < (L : Int)) = true := decide_eq_true (by omega)
  go_enter Try.func26, Try.ntmps26
  go_wp2_with (first
    | ((with_reducible refine at_slot 2 ?_); (refine arm_box (o := ⟨some 2, _, _, _, _, _⟩) rfl _ _ rfl (rcs L cs) rfl ?_); intro B w1 hBe hR1 hN1)
    | ((with_reducible refine at_slot 4 ?_); (refine arm_alloc (o := ⟨some 4, _, _, _, _, _⟩) rfl _ rfl (rcs 0 [0, 0, 0, 0]) z_rref ?_); intro R w2 hRe hR2 hN2; have cB := (hR1.old hN2.below).cell (rcs_get0 L cs))
    | ((with_reducible refine at_slot 12 ?_); (refine arm_build (o := ⟨some 12, _, _, _, _, _⟩) rfl _ _ rfl (rcs 0 [0, 0, 0, 0]) (by kernel_rfl) ?_))
    | ((with_reducible refine arm_store (o := ⟨none, _, _, _, _, _⟩) rfl _ _ _ rfl R 0 rfl (rcs 0 [0, 0, 0, 0]) rfl _ _ hR2 (by rw [z_len]; omega) (rcs_one _ _) (sz_rref' rfl) ?_); intro w3 hR3 hO3 hS3))
  have eR := hRe.out; have s1 := hN1.size; have s2 := hN2.size
  refine bodyPost_ret (v := .tuple #[.agg (rcs 0 [0, 0, 0, 0]).toArray, .int .i64 6]) (result_row2 (p := 4) (u := 5) (ty := 31) (t := 31) (by kernel_rfl) _ w3 R _ _ rfl rfl (hR3.congr (lay_all _ _ rfl)) (sz_rref' rfl)) rfl ⟨rfl, below_only (below_step hN1.below (by omega) hN2.below) hO3 (by omega) (by omega)⟩
set_option maxHeartbeats 1000000 in
set_option maxRecDepth 100000 in
theorem rput_full (L sub : Nat) (cs : List Nat) (w : World) (hL : L < 4294967296) (h : L ≤ sub) (hf : atG L cs sub = 3) (hl : cs.length = 4) :
    Calls Try.prog 26 #[.agg (rcs L cs).toArray, .int .u32 (sub : Int)] w fun e w' => e = .returned (.tuple #[.agg (rcs 0 [0, 0, 0, 0]).toArray, .int .i64 11]) ∧ Below w.heap.size w w' := by
  obtain ⟨a, b, c, d, rfl⟩ := four hl
  clear hl
  have hsub : sub = L := by
    rcases Nat.lt_or_ge L sub with h1 | h1
    · rw [atG_out (by omega)] at hf; omega
    · omega
  subst hsub
  have hd : decide ((sub : Int) < (sub : Int)) = false := decide_eq_false (by omega)
  have HF := Lib.hid hf; clear hf
  go_enter Try.func26, Try.ntmps26
  go_wp2_with (first
    | ((with_reducible refine at_slot 2 ?_); (refine arm_box (o := ⟨some 2, _, _, _, _, _⟩) rfl _ _ rfl (rcs sub [a, b, c, d]) rfl ?_); intro B w1 hBe hR1 hN1)
    | ((with_reducible refine at_slot 4 ?_); (refine arm_alloc (o := ⟨some 4, _, _, _, _, _⟩) rfl _ rfl (rcs 0 [0, 0, 0, 0]) z_rref ?_); intro R w2 hRe hR2 hN2; have k0 : w2.cell? ⟨B, 0, none⟩ = some (.int .u32 (sub : Int)) := (hR1.old hN2.below).cell (i := 0) rfl; have k1 : w2.cell? ⟨B, 1, none⟩ = some (.int .u32 (a : Int)) := (hR1.old hN2.below).cell (i := 1) rfl; have k2 : w2.cell? ⟨B, 2, none⟩ = some (.int .u32 (b : Int)) := (hR1.old hN2.below).cell (i := 2) rfl; have k3 : w2.cell? ⟨B, 3, none⟩ = some (.int .u32 (c : Int)) := (hR1.old hN2.below).cell (i := 3) rfl; have k4 : w2.cell? ⟨B, 4, none⟩ = some (.int .u32 (d : Int)) := (hR1.old hN2.below).cell (i := 4) rfl))
  refine (at_any sub [a, b, c, d] (sub : Int) _ hL rfl).mono ?_
  rintro e w3 ⟨rfl, hB3⟩
  rw [HF.out]
  have eR := hRe.out; have s1 := hN1.size; have s2 := hN2.size
  have hR3 := hR2.old hB3
  have lR : w.heap.size ≤ R := by omega
  have bel3 : Below w.heap.size w w3 := below_step (below_step hN1.below (by omega) hN2.below) (by omega) hB3
  clear eR s1 s2 hRe hBe hR1 hR2 hN1 hN2 hB3 k0 k1 k2 k3 k4
  clear w1 w2
  go_wp2_with (first
    | ((with_reducible refine at_slot 24 ?_); (refine arm_build (o := ⟨some 24, _, _, _, _, _⟩) rfl _ _ rfl (rcs 0 [0, 0, 0, 0]) (by kernel_rfl) ?_))
    | ((with_reducible refine arm_store (o := ⟨none, _, _, _, _, _⟩) rfl _ _ _ rfl R 0 rfl (rcs 0 [0, 0, 0, 0]) rfl _ _ hR3 (by rw [z_len]; omega) (rcs_one _ _) (sz_rref' rfl) ?_); intro w4 hR4 hO4 hS4))
  refine bodyPost_ret (v := .tuple #[.agg (rcs 0 [0, 0, 0, 0]).toArray, .int .i64 11]) (result_row2 (p := 4) (u := 5) (ty := 31) (t := 31) (by kernel_rfl) _ w4 R _ _ rfl rfl (hR4.congr (lay_all _ _ rfl)) (sz_rref' rfl)) rfl ⟨rfl, below_only bel3 hO4 lR bel3.size⟩

/-- The counts, the first k filled. -/
def fl (k : Nat) (ds : List Nat) : List Nat := ds.take k ++ List.replicate (4 - k) 0
theorem fl_len {k : Nat} {ds : List Nat} (h : ds.length = 4) (hk : k ≤ 4) : (fl k ds).length = 4 := by unfold fl; simp [h]; omega
theorem fl_step {k : Nat} {ds : List Nat} (h : ds.length = 4) (hk : k < 4) : (fl k ds).set k (ds.getD k 0) = fl (k + 1) ds := by
  obtain ⟨a, b, c, d, rfl⟩ := four h
  obtain rfl | rfl | rfl | rfl : k = 0 ∨ k = 1 ∨ k = 2 ∨ k = 3 := by omega
  all_goals rfl
theorem fl_all {ds : List Nat} (h : ds.length = 4) : fl 4 ds = ds := by
  obtain ⟨a, b, c, d, rfl⟩ := four h
  rfl
structure PtRel (w : World) (L sub : Nat) (cs : List Nat) (B R N : Nat) (i : Value) (wr : World) : Prop where
  ex : ∃ k : Nat, k ≤ 4 ∧ i = .int .i64 k ∧ Row wr N 31 (rcs sub (fl k (mvd L cs sub)))
  rb : Row wr B 31 (rcs L cs)
  rr : Row wr R 31 (rcs 0 [0, 0, 0, 0])
  bel : Below w.heap.size w wr
/-- The places are apart. -/
structure Apart (w : World) (B R N : Nat) : Prop where
  b : w.heap.size ≤ B
  r : w.heap.size ≤ R
  n : w.heap.size ≤ N
  br : B ≠ R
  bn : B ≠ N
  rn : R ≠ N
set_option maxHeartbeats 2000000 in
set_option maxRecDepth 100000 in
theorem rput_ok (L sub : Nat) (cs : List Nat) (w : World) (hL : L < 4294967296) (h : L ≤ sub) (hb : sub < 4294967296) (hf : atG L cs sub < 3) (hl : cs.length = 4) :
    Calls Try.prog 26 #[.agg (rcs L cs).toArray, .int .u32 (sub : Int)] w fun e w' => e = .returned (.tuple #[.agg (rcs sub (putd L cs sub)).toArray, .int .i64 0]) ∧ Below w.heap.size w w' := by
  have HF3 := Lib.hid hf
  by_cases hsub : sub = L
  · subst hsub
    obtain ⟨a, b, c, d, habcd⟩ := four hl
    have hd : decide ((sub : Int) < (sub : Int)) = false := decide_eq_false (by omega)
    have HCS := Lib.hid habcd
    obtain ⟨x, hx⟩ : ∃ x : Nat, x = atG sub cs (sub : Int) := ⟨_, rfl⟩
    rw [← hx] at hf
    have HX := Lib.hid hx
    have hdx : decide ((3 : Int) ≤ (x : Int)) = false := decide_eq_false (by omega)
    have HL := Lib.hid hl
    clear hl hx habcd
    go_enter Try.func26, Try.ntmps26
    go_wp2_with (first
      | ((with_reducible refine at_slot 2 ?_); (refine arm_box (o := ⟨some 2, _, _, _, _, _⟩) rfl _ _ rfl (rcs sub cs) rfl ?_); intro B w1 hBe hR1 hN1)
      | ((with_reducible refine at_slot 4 ?_); (refine arm_alloc (o := ⟨some 4, _, _, _, _, _⟩) rfl _ rfl (rcs 0 [0, 0, 0, 0]) z_rref ?_); intro R w2 hRe hR2 hN2; have k0 : w2.cell? ⟨B, 0, none⟩ = some (.int .u32 (sub : Int)) := ((hR1.congr (by rw [HCS.out])).old hN2.below : Row w2 B 31 (rcs sub [a, b, c, d])).cell (i := 0) rfl; have k1 : w2.cell? ⟨B, 1, none⟩ = some (.int .u32 (a : Int)) := ((hR1.congr (by rw [HCS.out])).old hN2.below : Row w2 B 31 (rcs sub [a, b, c, d])).cell (i := 1) rfl; have k2 : w2.cell? ⟨B, 2, none⟩ = some (.int .u32 (b : Int)) := ((hR1.congr (by rw [HCS.out])).old hN2.below : Row w2 B 31 (rcs sub [a, b, c, d])).cell (i := 2) rfl; have k3 : w2.cell? ⟨B, 3, none⟩ = some (.int .u32 (c : Int)) := ((hR1.congr (by rw [HCS.out])).old hN2.below : Row w2 B 31 (rcs sub [a, b, c, d])).cell (i := 3) rfl; have k4 : w2.cell? ⟨B, 4, none⟩ = some (.int .u32 (d : Int)) := ((hR1.congr (by rw [HCS.out])).old hN2.below : Row w2 B 31 (rcs sub [a, b, c, d])).cell (i := 4) rfl))
    have AT := at_any sub cs (sub : Int) w2 hL HL.out
    rw [← HX.out, HCS.out] at AT
    refine AT.mono ?_
    clear AT
    rintro e w3 ⟨rfl, hB3⟩
    have eB := hBe.out; have eR := hRe.out; have s1 := hN1.size; have s2 := hN2.size; have s3 := hB3.size
    have hRR3 := hR2.old hB3
    have hRB3 := (hR1.old hN2.below).old hB3
    have bel3 : Below w.heap.size w w3 := below_step (below_step hN1.below (by omega) hN2.below) (by omega) hB3
    have lB : w.heap.size ≤ B := by omega
    have lR : w.heap.size ≤ R := by omega
    have nBR : B ≠ R := by omega
    have LRB := Lib.hid (show B < w3.heap.size ∧ R < w3.heap.size ∧ B ≠ R from ⟨by omega, by omega, nBR⟩)
    clear eB eR s1 s2 s3 hRe hBe hR1 hR2 hN1 hN2 hB3 nBR k0 k1 k2 k3 k4
    clear w1 w2
    go_wp2_with (first
      | ((with_reducible refine at_slot 26 ?_); (refine arm_build (o := ⟨some 26, _, _, _, _, _⟩) rfl _ _ rfl (rcs sub [0, 0, 0, 0]) (by kernel_rfl) ?_))
      | ((with_reducible refine at_slot 6 ?_); (refine arm_alloc (o := ⟨some 6, _, _, _, _, _⟩) rfl _ rfl (rcs 0 [0, 0, 0, 0]) z_rref ?_); intro N w4 hNe hR4 hN4)
      | ((with_reducible refine arm_store (o := ⟨none, _, _, _, _, _⟩) rfl _ _ _ rfl N 0 rfl (rcs sub [0, 0, 0, 0]) rfl _ _ hR4 (by rw [z_len, rcs_len rfl]; omega) (rcs_one _ _) (sz_rref' rfl) ?_); intro w5 hR5 hO5 hS5))
    clear hdx HX hf
    have eN := hNe.out; have s4 := hN4.size; have s5 := hS5.out; have z3 := bel3.size; have hlr := LRB.out
    have HAP : Hid (Apart w B R N) := ⟨lB, lR, by omega, hlr.2.2, by omega, by omega⟩
    have bel5 : Below w.heap.size w w5 := below_only (below_step bel3 z3 hN4.below) hO5 (by omega) (by omega)
    have h0 : PtRel w sub sub cs B R N (.int .i64 0) w5 := ⟨⟨0, by omega, rfl, hR5.congr (lay_all _ _ rfl)⟩, (hRB3.old hN4.below).only hO5 HAP.out.bn, (hRR3.old hN4.below).only hO5 HAP.out.rn, bel5⟩
    clear eN s4 s5 z3 hlr hNe hR4 hN4 hR5 hO5 hS5 bel3 hRB3 hRR3 lB lR LRB bel5
    go_loopw [7] (fun i wr => PtRel w sub sub cs B R N i wr) (fun i _ => 4 - (intOf i).toNat)
    case atStart => exact h0
    case round =>
      clear h0
      obtain ⟨⟨k, hk, rfl, hRN⟩, hrb, hrr, hbel⟩ := hrel
      by_cases hlt : k < 4
      · have ik : (k : Int) < 4 := by omega
        have HDL := Lib.hid (fl_len (mvd_len sub cs sub) hk)
        have HST := Lib.hid (fl_step (mvd_len sub cs sub) hlt)
        rw [mvd_getD _ _ _ hlt] at HST
        obtain ⟨ds, hds⟩ : ∃ ds, ds = fl k (mvd sub cs sub) := ⟨_, rfl⟩
        rw [← hds] at hRN HDL HST
        clear hds
        go_wp2_with fail
        refine wp_region_held (S := fun w' => Only N wr.drew w') (by kernel_rfl) ?_
        change wpAnyH _ _ _ _ _ _ _ _ wr.drew
        have rbz : Row wr.drew B 31 (rcs sub cs) := hrb
        have rrz : Row wr.drew R 31 (rcs 0 [0, 0, 0, 0]) := hrr
        have rnz : Row wr.drew N 31 (rcs sub ds) := hRN
        have belz : Below w.heap.size w wr.drew := hbel.trans ((Below.refl _ _).drew)
        generalize wr.drew = wz at belz rbz rrz rnz ⊢
        clear hrb hrr hRN hbel
        have hS : Only N wz wz := Only.refl _ _
        refine h_take 0 (.int .i64 (k : Int)) rfl 31 rfl (by kernel_rfl) (by kernel_rfl) (by kernel_rfl) (by kernel_rfl) (fun _ _ _ h => h) (fun w' _ => by kernel_rfl) hS ?_
        simp only [Act.put, List.setIfInBounds_toArray, List.set_cons_zero, List.set_cons_succ]
        refine h_take 1 (.agg (rcs sub cs).toArray) rfl 32 rfl (by kernel_rfl) (by kernel_rfl) (by kernel_rfl) (by kernel_rfl) (fun _ _ _ h => h) (fun w' hC => run_op_load _ _ rfl B 0 rfl (rcs sub cs) (row_all (rbz.only hC HAP.out.bn)) (sz_rref' HL.out)) hS ?_
        simp only [Act.put, List.setIfInBounds_toArray, List.set_cons_zero, List.set_cons_succ]
        refine h_take 3 (.int .i64 (k : Int)) rfl 34 rfl (by kernel_rfl) (by kernel_rfl) (by kernel_rfl) (by kernel_rfl) (fun _ _ _ h => h) (fun w' _ => by kernel_rfl) hS ?_
        simp only [Act.put, List.setIfInBounds_toArray, List.set_cons_zero, List.set_cons_succ]
        refine h_take 6 (.pointer (some ⟨N, 1, none⟩)) rfl 37 rfl (by kernel_rfl) (by kernel_rfl) (by kernel_rfl) (by kernel_rfl) (fun _ _ _ h => h) (fun w' _ => by kernel_rfl) hS ?_
        simp only [Act.put, List.setIfInBounds_toArray, List.set_cons_zero, List.set_cons_succ]
        refine h_one (i := 2) (by kernel_rfl) (o_value (.agg (rcs sub ds).toArray) rfl 33 rfl (by kernel_rfl) (run_op_load _ _ rfl N 0 rfl (rcs sub ds) (row_all rnz) (sz_rref' HDL.out)) ⟨hS, ?_⟩)
        simp only [Act.put, List.setIfInBounds_toArray, List.set_cons_zero, List.set_cons_succ]
        refine h_one (i := 4) (by kernel_rfl) (o_call rfl 35 rfl (by kernel_rfl) (run_op_call 36 _ _ rfl #[.agg (rcs sub ds).toArray, .int .i64 (k : Int)] (by simp only [List.map_toArray, List.map_cons, List.map_nil]; rfl) Try.func36 (by kernel_rfl) (by kernel_rfl) _) (of_any sub k ds _ hb hlt HDL.out) ?_)
        rintro e y1 ⟨rfl, hB1⟩
        have hS1 : Only N wz y1 := Only.of_below N hB1
        refine ⟨_, rfl, hS1, ?_⟩
        simp only [Act.put, List.setIfInBounds_toArray, List.set_cons_zero, List.set_cons_succ]
        refine h_one (i := 5) (by kernel_rfl) (o_call rfl 36 rfl (by kernel_rfl) (run_op_call 35 _ _ rfl #[.agg (rcs sub cs).toArray, .int .i64 (lat sub k)] (by simp only [List.map_toArray, List.map_cons, List.map_nil]; rfl) Try.func35 (by kernel_rfl) (by kernel_rfl) _) (at_any sub cs (lat sub k) _ hL HL.out) ?_)
        rintro e y2 ⟨rfl, hB2⟩
        have hS2 : Only N wz y2 := hS1.trans (Only.of_below N hB2)
        refine ⟨_, rfl, hS2, ?_⟩
        have rn2 := (rnz.old hB1).old hB2
        have bel2 : Below w.heap.size w y2 := below_step (below_step belz belz.size hB1) (Nat.le_trans belz.size hB1.size) hB2
        have rb2 := (rbz.old hB1).old hB2
        have rr2 := (rrz.old hB1).old hB2
        clear hB1 hB2 rbz rrz rnz
        simp only [Act.put, List.setIfInBounds_toArray, List.set_cons_zero, List.set_cons_succ]
        refine h_take 7 (.pointer (some ⟨N, 1 + k, none⟩)) rfl 38 rfl (by kernel_rfl) (by kernel_rfl) (by kernel_rfl) (by kernel_rfl) (fun _ _ _ h => h) (fun w' _ => run_op_indexA _ _ _ rfl 4 22 (by kernel_rfl) (by kernel_rfl) N 1 rfl .i64 k rfl hlt w') hS2 ?_
        simp only [Act.put, List.setIfInBounds_toArray, List.set_cons_zero, List.set_cons_succ]
        refine h_one (i := 8) (by kernel_rfl) (o_skip rfl rfl (by kernel_rfl) (run_op_storeV _ _ _ rfl N (1 + k) rfl (.int .u32 (atG sub cs (lat sub k) : Nat)) rfl rfl (by kernel_rfl) _ _ rn2 (by rw [rcs_len HDL.out]; omega)) ?_)
        have rn3 := row_setRow rn2 ((rcs sub ds).set (1 + k) (.int .u32 (atG sub cs (lat sub k) : Nat)))
        have o3 := Only.setRow N y2 ((rcs sub ds).set (1 + k) (.int .u32 (atG sub cs (lat sub k) : Nat))).toArray
        generalize y2.setRow N ((rcs sub ds).set (1 + k) (.int .u32 (atG sub cs (lat sub k) : Nat))).toArray = y3 at rn3 o3 ⊢
        refine ⟨hS2.trans o3, ?_⟩
        refine wpAnyH_done (by kernel_rfl) ?_ _
        go_wp2_with fail
        go_roundw
        case rel => exact ⟨⟨k + 1, by omega, by go_num, rn3.congr (by rw [rcs_set, HST.out])⟩, rb2.only o3 HAP.out.bn, rr2.only o3 HAP.out.rn, below_only bel2 o3 HAP.out.n bel2.size⟩
        case measure => simp [intOf]; omega
      · obtain rfl : k = 4 := by omega
        rw [fl_all (mvd_len sub cs sub)] at hRN
        have HML := Lib.hid (mvd_len sub cs sub)
        have HAT := Lib.hid (mvd_at (L := sub) (s := sub) (cs := cs))
        have hpd : Hid ((mvd sub cs sub).set (sub % 4) (atG sub cs sub + 1) = putd sub cs sub) := rfl
        have HPL := Lib.hid (putd_len sub cs sub)
        obtain ⟨pd, hpdd⟩ : ∃ pd, pd = putd sub cs sub := ⟨_, rfl⟩
        rw [← hpdd] at hpd HPL
        obtain ⟨x, hxx⟩ : ∃ x, x = atG sub cs sub := ⟨_, rfl⟩
        rw [← hxx] at hpd HAT
        obtain ⟨ds, hds⟩ : ∃ ds, ds = mvd sub cs sub := ⟨_, rfl⟩
        rw [← hds] at hpd HAT HML hRN
        have hx3 : x < 3 := by rw [hxx]; exact HF3.out
        have HPD := Lib.hid hpdd
        clear hpdd hxx hds
        have hwx : ((x : Int) + 1) % 4294967296 = ((x + 1 : Nat) : Int) := by omega
        have hj : sub % 4 < 4 := by omega
        have hjj : ((sub : Int) % 4) = ((sub % 4 : Nat) : Int) := by omega
        generalize sub % 4 = j at hj hjj HAT hpd
        have cN := hRN.cell (rcs_get (L := sub) (cs := ds) (i := j) (by rw [HML.out]; exact hj))
        rw [HAT.out] at cN
        have ij : (j : Int) < 4 := by omega
        go_wp2_with (first
          | ((with_reducible refine arm_store1 (o := ⟨none, _, _, _, _, _⟩) rfl _ _ _ rfl N (1 + j) rfl .u32 _ rfl (by kernel_rfl) _ _ hRN (by rw [rcs_len HML.out]; omega) ?_); intro w7 hR7 hO7 hS7; have hRN7 : Row w7 N 31 (rcs sub pd) := hR7.congr (by rw [← hpd.out, ← rcs_set]; congr 2))
          | ((with_reducible refine at_slot 48 ?_); (refine arm_load (o := ⟨some 48, _, _, _, _, _⟩) rfl _ _ rfl N 0 rfl (rcs sub pd) (row_all hRN7) (sz_rref' HPL.out) ?_))
          | ((with_reducible refine arm_store (o := ⟨none, _, _, _, _, _⟩) rfl _ _ _ rfl R 0 rfl (rcs sub pd) rfl _ _ (hrr.only hO7 HAP.out.rn) (by rw [rcs_len HPL.out, z_len]; omega) (rcs_one _ _) (sz_rref' HPL.out) ?_); intro w8 hR8 hO8 hS8))
        refine bodyPost_ret (v := .tuple #[.agg (rcs sub pd).toArray, .int .i64 0]) (result_row2 (p := 4) (u := 5) (ty := 31) (t := 31) (by kernel_rfl) _ w8 R _ _ rfl rfl (hR8.congr (lay_all _ _ (by rw [rcs_len HPL.out, z_len]))) (sz_rref' HPL.out)) rfl ⟨by rw [HPD.out], below_only (below_only hbel hO7 HAP.out.n hbel.size) hO8 HAP.out.r (Nat.le_trans hbel.size hO7.size)⟩
  · have hd : decide ((sub : Int) < (L : Int)) = false := decide_eq_false (by omega)
    have heq : ((sub : Int) == (L : Int)) = false := beq_eq_false_iff_ne.2 (by omega)
    have HL := Lib.hid hl
    clear hl
    go_enter Try.func26, Try.ntmps26
    go_wp2_with (first
      | ((with_reducible refine at_slot 2 ?_); (refine arm_box (o := ⟨some 2, _, _, _, _, _⟩) rfl _ _ rfl (rcs L cs) rfl ?_); intro B w1 hBe hR1 hN1)
      | ((with_reducible refine at_slot 4 ?_); (refine arm_alloc (o := ⟨some 4, _, _, _, _, _⟩) rfl _ rfl (rcs 0 [0, 0, 0, 0]) z_rref ?_); intro R w2 hRe hR2 hN2; have cB := (hR1.old hN2.below).cell (rcs_get0 L cs))
      | ((with_reducible refine at_slot 26 ?_); (refine arm_build (o := ⟨some 26, _, _, _, _, _⟩) rfl _ _ rfl (rcs sub [0, 0, 0, 0]) (by kernel_rfl) ?_))
      | ((with_reducible refine at_slot 6 ?_); (refine arm_alloc (o := ⟨some 6, _, _, _, _, _⟩) rfl _ rfl (rcs 0 [0, 0, 0, 0]) z_rref ?_); intro N w4 hNe hR4 hN4)
      | ((with_reducible refine arm_store (o := ⟨none, _, _, _, _, _⟩) rfl _ _ _ rfl N 0 rfl (rcs sub [0, 0, 0, 0]) rfl _ _ hR4 (by rw [z_len, rcs_len rfl]; omega) (rcs_one _ _) (sz_rref' rfl) ?_); intro w5 hR5 hO5 hS5))
    have eB := hBe.out; have eR := hRe.out; have s1 := hN1.size; have s2 := hN2.size
    have lB : w.heap.size ≤ B := by omega
    have lR : w.heap.size ≤ R := by omega
    have LRB := Lib.hid (show B < w2.heap.size ∧ R < w2.heap.size ∧ B ≠ R from ⟨by omega, by omega, by omega⟩)
    have bel3 : Below w.heap.size w w2 := below_step hN1.below (by omega) hN2.below
    have hRB3 := hR1.old hN2.below
    have hRR3 := hR2
    clear eB eR s1 s2
    have eN := hNe.out; have s4 := hN4.size; have s5 := hS5.out; have z3 := bel3.size; have hlr := LRB.out
    have HAP : Hid (Apart w B R N) := ⟨lB, lR, by omega, hlr.2.2, by omega, by omega⟩
    have bel5 : Below w.heap.size w w5 := below_only (below_step bel3 z3 hN4.below) hO5 (by omega) (by omega)
    have h0 : PtRel w L sub cs B R N (.int .i64 0) w5 := ⟨⟨0, by omega, rfl, hR5.congr (lay_all _ _ rfl)⟩, (hRB3.old hN4.below).only hO5 HAP.out.bn, (hRR3.old hN4.below).only hO5 HAP.out.rn, bel5⟩
    clear eN s4 s5 z3 hlr hNe hR4 hN4 hR5 hO5 hS5 bel3 hRB3 hRR3 lB lR LRB bel5 hBe hRe hR1 hR2 hN1 hN2 cB
    go_loopw [7] (fun i wr => PtRel w L sub cs B R N i wr) (fun i _ => 4 - (intOf i).toNat)
    case atStart => exact h0
    case round =>
      clear h0
      obtain ⟨⟨k, hk, rfl, hRN⟩, hrb, hrr, hbel⟩ := hrel
      by_cases hlt : k < 4
      · have ik : (k : Int) < 4 := by omega
        have HDL := Lib.hid (fl_len (mvd_len L cs sub) hk)
        have HST := Lib.hid (fl_step (mvd_len L cs sub) hlt)
        rw [mvd_getD _ _ _ hlt] at HST
        obtain ⟨ds, hds⟩ : ∃ ds, ds = fl k (mvd L cs sub) := ⟨_, rfl⟩
        rw [← hds] at hRN HDL HST
        clear hds
        go_wp2_with fail
        refine wp_region_held (S := fun w' => Only N wr.drew w') (by kernel_rfl) ?_
        change wpAnyH _ _ _ _ _ _ _ _ wr.drew
        have rbz : Row wr.drew B 31 (rcs L cs) := hrb
        have rrz : Row wr.drew R 31 (rcs 0 [0, 0, 0, 0]) := hrr
        have rnz : Row wr.drew N 31 (rcs sub ds) := hRN
        have belz : Below w.heap.size w wr.drew := hbel.trans ((Below.refl _ _).drew)
        generalize wr.drew = wz at belz rbz rrz rnz ⊢
        clear hrb hrr hRN hbel
        have hS : Only N wz wz := Only.refl _ _
        refine h_take 0 (.int .i64 (k : Int)) rfl 31 rfl (by kernel_rfl) (by kernel_rfl) (by kernel_rfl) (by kernel_rfl) (fun _ _ _ h => h) (fun w' _ => by kernel_rfl) hS ?_
        simp only [Act.put, List.setIfInBounds_toArray, List.set_cons_zero, List.set_cons_succ]
        refine h_take 1 (.agg (rcs L cs).toArray) rfl 32 rfl (by kernel_rfl) (by kernel_rfl) (by kernel_rfl) (by kernel_rfl) (fun _ _ _ h => h) (fun w' hC => run_op_load _ _ rfl B 0 rfl (rcs L cs) (row_all (rbz.only hC HAP.out.bn)) (sz_rref' HL.out)) hS ?_
        simp only [Act.put, List.setIfInBounds_toArray, List.set_cons_zero, List.set_cons_succ]
        refine h_take 3 (.int .i64 (k : Int)) rfl 34 rfl (by kernel_rfl) (by kernel_rfl) (by kernel_rfl) (by kernel_rfl) (fun _ _ _ h => h) (fun w' _ => by kernel_rfl) hS ?_
        simp only [Act.put, List.setIfInBounds_toArray, List.set_cons_zero, List.set_cons_succ]
        refine h_take 6 (.pointer (some ⟨N, 1, none⟩)) rfl 37 rfl (by kernel_rfl) (by kernel_rfl) (by kernel_rfl) (by kernel_rfl) (fun _ _ _ h => h) (fun w' _ => by kernel_rfl) hS ?_
        simp only [Act.put, List.setIfInBounds_toArray, List.set_cons_zero, List.set_cons_succ]
        refine h_one (i := 2) (by kernel_rfl) (o_value (.agg (rcs sub ds).toArray) rfl 33 rfl (by kernel_rfl) (run_op_load _ _ rfl N 0 rfl (rcs sub ds) (row_all rnz) (sz_rref' HDL.out)) ⟨hS, ?_⟩)
        simp only [Act.put, List.setIfInBounds_toArray, List.set_cons_zero, List.set_cons_succ]
        refine h_one (i := 4) (by kernel_rfl) (o_call rfl 35 rfl (by kernel_rfl) (run_op_call 36 _ _ rfl #[.agg (rcs sub ds).toArray, .int .i64 (k : Int)] (by simp only [List.map_toArray, List.map_cons, List.map_nil]; rfl) Try.func36 (by kernel_rfl) (by kernel_rfl) _) (of_any sub k ds _ hb hlt HDL.out) ?_)
        rintro e y1 ⟨rfl, hB1⟩
        have hS1 : Only N wz y1 := Only.of_below N hB1
        refine ⟨_, rfl, hS1, ?_⟩
        simp only [Act.put, List.setIfInBounds_toArray, List.set_cons_zero, List.set_cons_succ]
        refine h_one (i := 5) (by kernel_rfl) (o_call rfl 36 rfl (by kernel_rfl) (run_op_call 35 _ _ rfl #[.agg (rcs L cs).toArray, .int .i64 (lat sub k)] (by simp only [List.map_toArray, List.map_cons, List.map_nil]; rfl) Try.func35 (by kernel_rfl) (by kernel_rfl) _) (at_any L cs (lat sub k) _ hL HL.out) ?_)
        rintro e y2 ⟨rfl, hB2⟩
        have hS2 : Only N wz y2 := hS1.trans (Only.of_below N hB2)
        refine ⟨_, rfl, hS2, ?_⟩
        have rn2 := (rnz.old hB1).old hB2
        have bel2 : Below w.heap.size w y2 := below_step (below_step belz belz.size hB1) (Nat.le_trans belz.size hB1.size) hB2
        have rb2 := (rbz.old hB1).old hB2
        have rr2 := (rrz.old hB1).old hB2
        clear hB1 hB2 rbz rrz rnz
        simp only [Act.put, List.setIfInBounds_toArray, List.set_cons_zero, List.set_cons_succ]
        refine h_take 7 (.pointer (some ⟨N, 1 + k, none⟩)) rfl 38 rfl (by kernel_rfl) (by kernel_rfl) (by kernel_rfl) (by kernel_rfl) (fun _ _ _ h => h) (fun w' _ => run_op_indexA _ _ _ rfl 4 22 (by kernel_rfl) (by kernel_rfl) N 1 rfl .i64 k rfl hlt w') hS2 ?_
        simp only [Act.put, List.setIfInBounds_toArray, List.set_cons_zero, List.set_cons_succ]
        refine h_one (i := 8) (by kernel_rfl) (o_skip rfl rfl (by kernel_rfl) (run_op_storeV _ _ _ rfl N (1 + k) rfl (.int .u32 (atG L cs (lat sub k) : Nat)) rfl rfl (by kernel_rfl) _ _ rn2 (by rw [rcs_len HDL.out]; omega)) ?_)
        have rn3 := row_setRow rn2 ((rcs sub ds).set (1 + k) (.int .u32 (atG L cs (lat sub k) : Nat)))
        have o3 := Only.setRow N y2 ((rcs sub ds).set (1 + k) (.int .u32 (atG L cs (lat sub k) : Nat))).toArray
        generalize y2.setRow N ((rcs sub ds).set (1 + k) (.int .u32 (atG L cs (lat sub k) : Nat))).toArray = y3 at rn3 o3 ⊢
        refine ⟨hS2.trans o3, ?_⟩
        refine wpAnyH_done (by kernel_rfl) ?_ _
        go_wp2_with fail
        go_roundw
        case rel => exact ⟨⟨k + 1, by omega, by go_num, rn3.congr (by rw [rcs_set, HST.out])⟩, rb2.only o3 HAP.out.bn, rr2.only o3 HAP.out.rn, below_only bel2 o3 HAP.out.n bel2.size⟩
        case measure => simp [intOf]; omega
      · obtain rfl : k = 4 := by omega
        rw [fl_all (mvd_len L cs sub)] at hRN
        have HML := Lib.hid (mvd_len L cs sub)
        have HAT := Lib.hid (mvd_at (L := L) (s := sub) (cs := cs))
        have hpd : Hid ((mvd L cs sub).set (sub % 4) (atG L cs sub + 1) = putd L cs sub) := rfl
        have HPL := Lib.hid (putd_len L cs sub)
        obtain ⟨pd, hpdd⟩ : ∃ pd, pd = putd L cs sub := ⟨_, rfl⟩
        rw [← hpdd] at hpd HPL
        obtain ⟨x, hxx⟩ : ∃ x, x = atG L cs sub := ⟨_, rfl⟩
        rw [← hxx] at hpd HAT
        obtain ⟨ds, hds⟩ : ∃ ds, ds = mvd L cs sub := ⟨_, rfl⟩
        rw [← hds] at hpd HAT HML hRN
        have hx3 : x < 3 := by rw [hxx]; exact HF3.out
        have HPD := Lib.hid hpdd
        clear hpdd hxx hds
        have hwx : ((x : Int) + 1) % 4294967296 = ((x + 1 : Nat) : Int) := by omega
        have hj : sub % 4 < 4 := by omega
        have hjj : ((sub : Int) % 4) = ((sub % 4 : Nat) : Int) := by omega
        generalize sub % 4 = j at hj hjj HAT hpd
        have cN := hRN.cell (rcs_get (L := sub) (cs := ds) (i := j) (by rw [HML.out]; exact hj))
        rw [HAT.out] at cN
        have ij : (j : Int) < 4 := by omega
        go_wp2_with (first
          | ((with_reducible refine arm_store1 (o := ⟨none, _, _, _, _, _⟩) rfl _ _ _ rfl N (1 + j) rfl .u32 _ rfl (by kernel_rfl) _ _ hRN (by rw [rcs_len HML.out]; omega) ?_); intro w7 hR7 hO7 hS7; have hRN7 : Row w7 N 31 (rcs sub pd) := hR7.congr (by rw [← hpd.out, ← rcs_set]; congr 2))
          | ((with_reducible refine at_slot 48 ?_); (refine arm_load (o := ⟨some 48, _, _, _, _, _⟩) rfl _ _ rfl N 0 rfl (rcs sub pd) (row_all hRN7) (sz_rref' HPL.out) ?_))
          | ((with_reducible refine arm_store (o := ⟨none, _, _, _, _, _⟩) rfl _ _ _ rfl R 0 rfl (rcs sub pd) rfl _ _ (hrr.only hO7 HAP.out.rn) (by rw [rcs_len HPL.out, z_len]; omega) (rcs_one _ _) (sz_rref' HPL.out) ?_); intro w8 hR8 hO8 hS8))
        refine bodyPost_ret (v := .tuple #[.agg (rcs sub pd).toArray, .int .i64 0]) (result_row2 (p := 4) (u := 5) (ty := 31) (t := 31) (by kernel_rfl) _ w8 R _ _ rfl rfl (hR8.congr (lay_all _ _ (by rw [rcs_len HPL.out, z_len]))) (sz_rref' HPL.out)) rfl ⟨by rw [HPD.out], below_only (below_only hbel hO7 HAP.out.n hbel.size) hO8 HAP.out.r (Nat.le_trans hbel.size hO7.size)⟩

end Go.Proofs.Ytbbmjjphkmjnbaa.Rg
