/-
  RingTells, walked: whether any ring may be, how many blocks it has, and any window ahead, and the ring with one block more are as the document says. Over this seat's translation.
-/
import Derived.Test.YtihmfneoieoopaaRingAwake
import Derived.Test.YtihmfneoieoopaaRingRefPut
namespace Go.Proofs.Ytihmfneoieoopaa.Rg
open Go.ChangeShapes Go.WideShapes Go.ChangeAt Go.RowKit Go.Proofs.Ytihmfneoieoopaa.Mem Go.Proofs.Ytihmfneoieoopaa.Bt
set_option linter.unusedVariables false
set_option linter.unusedSimpArgs false

theorem run_op_eqlI {P : Program} {o : Oper} {a : Act} (t t' : TypeId) (k' : IntKind) (hu : P.underlying t = some (.int k')) (x y : Operand) (ho : o.op = .binOp .eql t x y t') (k : IntKind) (m n : Int) (hx : a.eval x = .int k m) (hy : a.eval y = .int k n) (w : World) :
    (execOp a.eval o).run P w = .ok (.value (.bool (m == n))) w := by
  unfold execOp
  simp [ho, hx, hy, eqGuard, binOp, Op.intCmp]
theorem eqI_same (m : Int) : (m == m) = true := beq_self_eq_true m
/-- What Put answers. -/
def putL (L : Nat) (cs : List Nat) (sub : Nat) : Nat := if L ≤ sub ∧ atG L cs sub < 3 then sub else 0
def putC (L : Nat) (cs : List Nat) (sub : Nat) : List Nat := if L ≤ sub ∧ atG L cs sub < 3 then putd L cs sub else [0, 0, 0, 0]
def putE (L : Nat) (cs : List Nat) (sub : Nat) : Int := if sub < L then 6 else if atG L cs sub < 3 then 0 else 11
theorem putC_len (L : Nat) (cs : List Nat) (sub : Nat) : (putC L cs sub).length = 4 := by unfold putC; split; exact putd_len _ _ _; rfl
theorem put_any (L sub : Nat) (cs : List Nat) (w : World) (hb : sub < 4294967296) (hs : Small cs) (hl : cs.length = 4) :
    Calls Try.prog 14 #[.agg (rcs L cs).toArray, .int .u32 (sub : Int)] w fun e w' => e = .returned (.tuple #[.agg (rcs (putL L cs sub) (putC L cs sub)).toArray, .int .i64 (putE L cs sub)]) ∧ Below w.heap.size w w' := by
  unfold putL putC putE
  rcases Nat.lt_or_ge sub L with h | h
  · rw [if_neg (by omega), if_neg (by omega), if_pos h]
    exact put_early L sub cs w h hl
  · rw [if_neg (show ¬ sub < L by omega)]
    rcases Nat.lt_or_ge (atG L cs sub) 3 with h3 | h3
    · rw [if_pos ⟨h, h3⟩, if_pos ⟨h, h3⟩, if_pos h3]
      exact put_ok L sub cs w h hb h3 hl
    · have := atG_small (L := L) hs (sub : Int)
      rw [if_neg (by omega), if_neg (by omega), if_neg (by omega)]
      exact put_full L sub cs w h hb (by omega) hl
theorem rput_any (L sub : Nat) (cs : List Nat) (w : World) (hL : L < 4294967296) (hb : sub < 4294967296) (hs : Small cs) (hl : cs.length = 4) :
    Calls Try.prog 15 #[.agg (rcs L cs).toArray, .int .u32 (sub : Int)] w fun e w' => e = .returned (.tuple #[.agg (rcs (putL L cs sub) (putC L cs sub)).toArray, .int .i64 (putE L cs sub)]) ∧ Below w.heap.size w w' := by
  unfold putL putC putE
  rcases Nat.lt_or_ge sub L with h | h
  · rw [if_neg (by omega), if_neg (by omega), if_pos h]
    exact rput_early L sub cs w h hl
  · rw [if_neg (show ¬ sub < L by omega)]
    rcases Nat.lt_or_ge (atG L cs sub) 3 with h3 | h3
    · rw [if_pos ⟨h, h3⟩, if_pos ⟨h, h3⟩, if_pos h3]
      exact rput_ok L sub cs w hL h hb h3 hl
    · have := atG_small (L := L) hs (sub : Int)
      rw [if_neg (by omega), if_neg (by omega), if_neg (by omega)]
      exact rput_full L sub cs w hL h (by omega) hl
set_option maxHeartbeats 2000000 in
set_option maxRecDepth 100000 in
theorem ringTells_any (L sub : Nat) (cs : List Nat) (w : World) (hL : L < 4294967296) (hb : sub < 4294967296) (hc : AllLt 4294967296 cs) (hl : cs.length = 4) :
    Calls Try.prog 3 #[.agg (rcs L cs).toArray, .int .u32 (sub : Int)] w fun e w' => e = .returned (.bool true) ∧ Below w.heap.size w w' := by
  have HL := Lib.hid hl; have HC := Lib.hid hc; clear hl hc
  by_cases hv : Rt L cs
  · have HV : Hid (decide (Rt L cs) = true) := decide_eq_true hv
    have HS : Hid (Small cs) := hv.1
    clear hv
    have CB := Lib.hid (before_any L sub cs)
    have CR := Lib.hid (rbefore_any L sub cs)
    have CP := Lib.hid (put_any L sub cs)
    have CQ := Lib.hid (rput_any L sub cs)
    have HPC := Lib.hid (putC_len L cs sub)
    generalize befN L cs sub = bn at CB CR
    generalize befE L sub = be at CB CR
    generalize putL L cs sub = pl at CP CQ
    generalize putC L cs sub = pc at CP CQ HPC
    generalize putE L cs sub = pe at CP CQ
    go_enter Try.func3, Try.ntmps3
    go_wp2_with (first
      | ((with_reducible refine at_slot 2 ?_); (refine arm_box (o := ⟨some 2, _, _, _, _, _⟩) rfl _ _ rfl (rcs L cs) rfl ?_); intro B w1 hBe hR1 hN1))
    refine (awake_any _).mono ?_
    rintro e w2 ⟨rfl, hB2⟩
    have hR2 := hR1.old hB2
    have bel2 : Below w.heap.size w w2 := below_step hN1.below hN1.below.size hB2
    clear hBe hR1 hN1 hB2
    clear w1
    go_wp2_with fail
    refine wp_region_held (S := fun w' => Below w2.drew.heap.size w2.drew w') (by kernel_rfl) ?_
    change wpAnyH _ _ _ _ _ _ _ _ w2.drew
    have rz : Row w2.drew B 25 (rcs L cs) := hR2
    have belz : Below w.heap.size w w2.drew := bel2.trans ((Below.refl _ _).drew)
    generalize w2.drew = wz at belz rz ⊢
    clear hR2 bel2 w2
    have hS : Below wz.heap.size wz wz := Below.refl _ _
    refine h_take 0 (.agg (rcs L cs).toArray) rfl 15 rfl (by kernel_rfl) (by kernel_rfl) (by kernel_rfl) (by kernel_rfl) (fun _ _ _ h => h) (fun w' hC => run_op_load _ _ rfl B 0 rfl (rcs L cs) (row_all (rz.old hC)) (sz_ring' HL.out)) hS ?_
    simp only [Act.put, List.setIfInBounds_toArray, List.set_cons_zero, List.set_cons_succ]
    refine h_take 2 (.agg (rcs L cs).toArray) rfl 17 rfl (by kernel_rfl) (by kernel_rfl) (by kernel_rfl) (by kernel_rfl) (fun _ _ _ h => h) (fun w' hC => run_op_load _ _ rfl B 0 rfl (rcs L cs) (row_all (rz.old hC)) (sz_ring' HL.out)) hS ?_
    simp only [Act.put, List.setIfInBounds_toArray, List.set_cons_zero, List.set_cons_succ]
    refine h_one (i := 1) (by kernel_rfl) (o_call rfl 16 rfl (by kernel_rfl) (run_op_call 8 _ _ rfl #[.agg (rcs L cs).toArray] (by simp only [List.map_toArray, List.map_cons, List.map_nil]; rfl) Try.func8 (by kernel_rfl) (by kernel_rfl) _) (right_any L cs _ hL HC.out HL.out) ?_)
    rw [HV.out]
    rintro e y1 ⟨rfl, hB1⟩
    have hS1 : Below wz.heap.size wz y1 := below_step hS hS.size hB1
    refine ⟨_, rfl, hS1, ?_⟩
    clear hB1
    simp only [Act.put, List.setIfInBounds_toArray, List.set_cons_zero, List.set_cons_succ]
    refine h_one (i := 3) (by kernel_rfl) (o_call rfl 18 rfl (by kernel_rfl) (run_op_call 9 _ _ rfl #[.agg (rcs L cs).toArray] (by simp only [List.map_toArray, List.map_cons, List.map_nil]; rfl) Try.func9 (by kernel_rfl) (by kernel_rfl) _) (rright_any L cs _ hL HL.out) ?_)
    rw [HV.out]
    rintro e y2 ⟨rfl, hB2⟩
    have hS2 : Below wz.heap.size wz y2 := below_step hS1 hS1.size hB2
    refine ⟨_, rfl, hS2, ?_⟩
    clear hB2
    simp only [Act.put, List.setIfInBounds_toArray, List.set_cons_zero, List.set_cons_succ]
    refine h_take 4 (.bool false) rfl 19 rfl (by kernel_rfl) (by kernel_rfl) (by kernel_rfl) (by kernel_rfl) (fun _ _ _ h => h) (fun w' _ => by kernel_rfl) hS2 ?_
    simp only [Act.put, List.setIfInBounds_toArray, List.set_cons_zero, List.set_cons_succ]
    refine h_take 5 (.bool false) rfl 20 rfl (by kernel_rfl) (by kernel_rfl) (by kernel_rfl) (by kernel_rfl) (fun _ _ _ h => h) (fun w' _ => by kernel_rfl) hS2 ?_
    simp only [Act.put, List.setIfInBounds_toArray, List.set_cons_zero, List.set_cons_succ]
    refine h_one (i := 6) (by kernel_rfl) (o_call rfl 21 rfl (by kernel_rfl) (run_op_call 10 _ _ rfl #[] (by simp only [List.map_toArray, List.map_nil]) Try.func10 (by kernel_rfl) (by kernel_rfl) _) (genesis_any _) ?_)
    rintro e y3 ⟨rfl, hB3⟩
    have hS3 : Below wz.heap.size wz y3 := below_step hS2 hS2.size hB3
    refine ⟨_, rfl, hS3, ?_⟩
    clear hB3
    simp only [Act.put, List.setIfInBounds_toArray, List.set_cons_zero, List.set_cons_succ]
    refine h_one (i := 7) (by kernel_rfl) (o_call rfl 22 rfl (by kernel_rfl) (run_op_call 11 _ _ rfl #[] (by simp only [List.map_toArray, List.map_nil]) Try.func11 (by kernel_rfl) (by kernel_rfl) _) (rgenesis_any _) ?_)
    rintro e y4 ⟨rfl, hB4⟩
    have hS4 : Below wz.heap.size wz y4 := below_step hS3 hS3.size hB4
    refine ⟨_, rfl, hS4, ?_⟩
    clear hB4
    simp only [Act.put, List.setIfInBounds_toArray, List.set_cons_zero, List.set_cons_succ]
    refine h_take 8 (.bool false) rfl 23 rfl (by kernel_rfl) (by kernel_rfl) (by kernel_rfl) (by kernel_rfl) (fun _ _ _ h => h) (fun w' _ => (run_op_neqR _ _ _ rfl 0 0 [1, 3, 3, 3] [1, 3, 3, 3] rfl rfl rfl rfl w').trans rfl) hS4 ?_
    simp only [Act.put, List.setIfInBounds_toArray, List.set_cons_zero, List.set_cons_succ]
    refine h_take 9 (.bool false) rfl 24 rfl (by kernel_rfl) (by kernel_rfl) (by kernel_rfl) (by kernel_rfl) (fun _ _ _ h => h) (fun w' _ => by kernel_rfl) hS4 ?_
    simp only [Act.put, List.setIfInBounds_toArray, List.set_cons_zero, List.set_cons_succ]
    refine wpAnyH_done (by kernel_rfl) ?_ _
    have bel3 : Below w.heap.size w y4 := below_step belz belz.size hS4
    have hR3 := rz.old hS4
    clear belz rz hS hS1 hS2 hS3 hS4 y1 y2 y3 wz
    go_wp2_with (first
      | ((with_reducible refine at_slot 25 ?_); (refine arm_load (o := ⟨some 25, _, _, _, _, _⟩) rfl _ _ rfl B 0 rfl (rcs L cs) (row_all hR3) (sz_ring' HL.out) ?_)))
    refine (rright_any L cs _ hL HL.out).mono ?_
    rw [HV.out]
    rintro e w4 ⟨rfl, hB4⟩
    have hR4 := hR3.old hB4
    have bel4 := below_step bel3 bel3.size hB4
    clear hR3 bel3 hB4
    go_wp2_with (first
      | ((with_reducible refine at_slot 29 ?_); (refine arm_load (o := ⟨some 29, _, _, _, _, _⟩) rfl _ _ rfl B 0 rfl (rcs L cs) (row_all hR4) (sz_ring' HL.out) ?_)))
    refine (CB.out _ hL hb HS.out HL.out).mono ?_
    rintro e w5 ⟨rfl, hB5⟩
    have hR5 := hR4.old hB5
    have bel5 := below_step bel4 bel4.size hB5
    clear hR4 bel4 hB5
    go_wp2_with (first
      | ((with_reducible refine at_slot 35 ?_); (refine arm_load (o := ⟨some 35, _, _, _, _, _⟩) rfl _ _ rfl B 0 rfl (rcs L cs) (row_all hR5) (sz_ring' HL.out) ?_)))
    refine (CR.out _ hL hb HS.out HL.out).mono ?_
    rintro e w6 ⟨rfl, hB6⟩
    have hR6 := hR5.old hB6
    have bel6 := below_step bel5 bel5.size hB6
    clear hR5 bel5 hB6
    go_wp2_with (first
      | ((with_reducible refine at_slot 41 ?_); (refine arm_load (o := ⟨some 41, _, _, _, _, _⟩) rfl _ _ rfl B 0 rfl (rcs L cs) (row_all hR6) (sz_ring' HL.out) ?_)))
    refine (CP.out _ hb HS.out HL.out).mono ?_
    rintro e w7 ⟨rfl, hB7⟩
    have hR7 := hR6.old hB7
    have bel7 := below_step bel6 bel6.size hB7
    clear hR6 bel6 hB7
    go_wp2_with (first
      | ((with_reducible refine at_slot 9 ?_); (refine arm_alloc (o := ⟨some 9, _, _, _, _, _⟩) rfl _ rfl (rcs 0 [0, 0, 0, 0]) z_ring ?_); intro X w8 hXe hR8 hN8)
      | ((with_reducible refine arm_store (o := ⟨none, _, _, _, _, _⟩) rfl _ _ _ rfl X 0 rfl (rcs pl pc) rfl _ _ hR8 (by rw [rcs_len HPC.out, z_len]; omega) (rcs_one _ _) (sz_ring' HPC.out) ?_); intro w9 hR9 hO9 hS9)
      | ((with_reducible refine at_slot 47 ?_); (refine arm_load (o := ⟨some 47, _, _, _, _, _⟩) rfl _ _ rfl B 0 rfl (rcs L cs) (row_all ((hR7.old hN8.below).only hO9 (by have := hXe.out; have := hR7.lt; omega))) (sz_ring' HL.out) ?_)))
    have eX := hXe.out; have s8 := hN8.size; have s9 := hS9.out; have z7 := bel7.size; have lB := hR7.lt
    have bel9 : Below w.heap.size w w9 := below_only (below_step bel7 z7 hN8.below) hO9 (by omega) (by omega)
    have rB9 := (hR7.old hN8.below).only hO9 (by omega)
    have rX9 : Row w9 X 25 (rcs pl pc) := hR9.congr (lay_all _ _ (by rw [rcs_len HPC.out, z_len]))
    clear eX s8 s9 z7 lB hXe hR7 bel7 hR8 hN8 hR9 hO9 hS9
    refine (CQ.out _ hL hb HS.out HL.out).mono ?_
    rintro e w10 ⟨rfl, hB10⟩
    have bel10 := below_step bel9 bel9.size hB10
    replace rB9 := rB9.old hB10
    replace rX9 := rX9.old hB10
    clear bel9 hB10
    go_wp2_with (first
      | ((with_reducible refine at_slot 11 ?_); (refine arm_alloc (o := ⟨some 11, _, _, _, _, _⟩) rfl _ rfl (rcs 0 [0, 0, 0, 0]) z_rref ?_); intro Y w11 hYe hR11 hN11)
      | ((with_reducible refine arm_store (o := ⟨none, _, _, _, _, _⟩) rfl _ _ _ rfl Y 0 rfl (rcs pl pc) rfl _ _ hR11 (by rw [rcs_len HPC.out, z_len]; omega) (rcs_one _ _) (sz_rref' HPC.out) ?_); intro w12 hR12 hO12 hS12))
    have eY := hYe.out; have s11 := hN11.size; have s12 := hS12.out; have z10 := bel10.size; have lB := rB9.lt; have lX := rX9.lt
    have bel12 : Below w.heap.size w w12 := below_only (below_step bel10 z10 hN11.below) hO12 (by omega) (by omega)
    have rB12 := (rB9.old hN11.below).only hO12 (by omega)
    have rX12 := (rX9.old hN11.below).only hO12 (by omega)
    have rY12 : Row w12 Y 29 (rcs pl pc) := hR12.congr (lay_all _ _ (by rw [rcs_len HPC.out, z_len]))
    clear eY s11 s12 z10 lB lX hYe rB9 rX9 bel10 hR11 hN11 hR12 hO12 hS12
    refine wp_region_held (S := fun w' => Below w12.drew.heap.size w12.drew w') (by kernel_rfl) ?_
    change wpAnyH _ _ _ _ _ _ _ _ w12.drew
    have rz : Row w12.drew B 25 (rcs L cs) := rB12
    have xz : Row w12.drew X 25 (rcs pl pc) := rX12
    have yz : Row w12.drew Y 29 (rcs pl pc) := rY12
    have belz : Below w.heap.size w w12.drew := bel12.trans ((Below.refl _ _).drew)
    generalize w12.drew = wz at belz rz xz yz ⊢
    clear rB12 rX12 rY12 bel12
    have hS : Below wz.heap.size wz wz := Below.refl _ _
    refine h_take 0 (.agg (rcs L cs).toArray) rfl 52 rfl (by kernel_rfl) (by kernel_rfl) (by kernel_rfl) (by kernel_rfl) (fun _ _ _ h => h) (fun w' hC => run_op_load _ _ rfl B 0 rfl (rcs L cs) (row_all (rz.old hC)) (sz_ring' HL.out)) hS ?_
    simp only [Act.put, List.setIfInBounds_toArray, List.set_cons_zero, List.set_cons_succ]
    refine h_take 2 (.agg (rcs L cs).toArray) rfl 54 rfl (by kernel_rfl) (by kernel_rfl) (by kernel_rfl) (by kernel_rfl) (fun _ _ _ h => h) (fun w' hC => run_op_load _ _ rfl B 0 rfl (rcs L cs) (row_all (rz.old hC)) (sz_ring' HL.out)) hS ?_
    simp only [Act.put, List.setIfInBounds_toArray, List.set_cons_zero, List.set_cons_succ]
    refine h_one (i := 1) (by kernel_rfl) (o_call rfl 53 rfl (by kernel_rfl) (run_op_call 16 _ _ rfl #[.agg (rcs L cs).toArray] (by simp only [List.map_toArray, List.map_cons, List.map_nil]; rfl) Try.func16 (by kernel_rfl) (by kernel_rfl) _) (sum_any L cs _ HS.out HL.out) ?_)
    rintro e y1 ⟨rfl, hB1⟩
    have hS1 : Below wz.heap.size wz y1 := below_step hS hS.size hB1
    refine ⟨_, rfl, hS1, ?_⟩
    clear hB1
    simp only [Act.put, List.setIfInBounds_toArray, List.set_cons_zero, List.set_cons_succ]
    refine h_one (i := 3) (by kernel_rfl) (o_call rfl 55 rfl (by kernel_rfl) (run_op_call 17 _ _ rfl #[.agg (rcs L cs).toArray] (by simp only [List.map_toArray, List.map_cons, List.map_nil]; rfl) Try.func17 (by kernel_rfl) (by kernel_rfl) _) (rsum_any L cs _ HS.out HL.out) ?_)
    rintro e y2 ⟨rfl, hB2⟩
    have hS2 : Below wz.heap.size wz y2 := below_step hS1 hS1.size hB2
    refine ⟨_, rfl, hS2, ?_⟩
    clear hB2
    simp only [Act.put, List.setIfInBounds_toArray, List.set_cons_zero, List.set_cons_succ]
    refine h_take 4 (.bool true) rfl 56 rfl (by kernel_rfl) (by kernel_rfl) (by kernel_rfl) (by kernel_rfl) (fun _ _ _ h => h) (fun w' _ => (run_op_eqlI _ _ .u32 (by kernel_rfl) _ _ rfl .u32 _ _ rfl rfl w').trans (by rw [eqI_same])) hS2 ?_
    simp only [Act.put, List.setIfInBounds_toArray, List.set_cons_zero, List.set_cons_succ]
    refine h_take 5 (.bool true) rfl 57 rfl (by kernel_rfl) (by kernel_rfl) (by kernel_rfl) (by kernel_rfl) (fun _ _ _ h => h) (fun w' _ => by kernel_rfl) hS2 ?_
    simp only [Act.put, List.setIfInBounds_toArray, List.set_cons_zero, List.set_cons_succ]
    refine h_take 6 (.int .u32 (bn : Int)) rfl 58 rfl (by kernel_rfl) (by kernel_rfl) (by kernel_rfl) (by kernel_rfl) (fun _ _ _ h => h) (fun w' _ => by kernel_rfl) hS2 ?_
    simp only [Act.put, List.setIfInBounds_toArray, List.set_cons_zero, List.set_cons_succ]
    refine h_take 7 (.int .u32 (bn : Int)) rfl 59 rfl (by kernel_rfl) (by kernel_rfl) (by kernel_rfl) (by kernel_rfl) (fun _ _ _ h => h) (fun w' _ => by kernel_rfl) hS2 ?_
    simp only [Act.put, List.setIfInBounds_toArray, List.set_cons_zero, List.set_cons_succ]
    refine h_take 8 (.bool true) rfl 60 rfl (by kernel_rfl) (by kernel_rfl) (by kernel_rfl) (by kernel_rfl) (fun _ _ _ h => h) (fun w' _ => (run_op_eqlI _ _ .u32 (by kernel_rfl) _ _ rfl .u32 _ _ rfl rfl w').trans (by rw [eqI_same])) hS2 ?_
    simp only [Act.put, List.setIfInBounds_toArray, List.set_cons_zero, List.set_cons_succ]
    refine h_take 9 (.bool true) rfl 61 rfl (by kernel_rfl) (by kernel_rfl) (by kernel_rfl) (by kernel_rfl) (fun _ _ _ h => h) (fun w' _ => by kernel_rfl) hS2 ?_
    simp only [Act.put, List.setIfInBounds_toArray, List.set_cons_zero, List.set_cons_succ]
    refine h_take 10 (.bool true) rfl 62 rfl (by kernel_rfl) (by kernel_rfl) (by kernel_rfl) (by kernel_rfl) (fun _ _ _ h => h) (fun w' _ => by kernel_rfl) hS2 ?_
    simp only [Act.put, List.setIfInBounds_toArray, List.set_cons_zero, List.set_cons_succ]
    refine h_take 11 (.int .i64 be) rfl 63 rfl (by kernel_rfl) (by kernel_rfl) (by kernel_rfl) (by kernel_rfl) (fun _ _ _ h => h) (fun w' _ => by kernel_rfl) hS2 ?_
    simp only [Act.put, List.setIfInBounds_toArray, List.set_cons_zero, List.set_cons_succ]
    refine h_take 12 (.int .i64 be) rfl 64 rfl (by kernel_rfl) (by kernel_rfl) (by kernel_rfl) (by kernel_rfl) (fun _ _ _ h => h) (fun w' _ => by kernel_rfl) hS2 ?_
    simp only [Act.put, List.setIfInBounds_toArray, List.set_cons_zero, List.set_cons_succ]
    refine h_take 13 (.bool true) rfl 65 rfl (by kernel_rfl) (by kernel_rfl) (by kernel_rfl) (by kernel_rfl) (fun _ _ _ h => h) (fun w' _ => (run_op_eqlI _ _ .i64 (by kernel_rfl) _ _ rfl .i64 _ _ rfl rfl w').trans (by rw [eqI_same])) hS2 ?_
    simp only [Act.put, List.setIfInBounds_toArray, List.set_cons_zero, List.set_cons_succ]
    refine h_take 14 (.bool true) rfl 66 rfl (by kernel_rfl) (by kernel_rfl) (by kernel_rfl) (by kernel_rfl) (fun _ _ _ h => h) (fun w' _ => by kernel_rfl) hS2 ?_
    simp only [Act.put, List.setIfInBounds_toArray, List.set_cons_zero, List.set_cons_succ]
    refine h_take 15 (.bool true) rfl 67 rfl (by kernel_rfl) (by kernel_rfl) (by kernel_rfl) (by kernel_rfl) (fun _ _ _ h => h) (fun w' _ => by kernel_rfl) hS2 ?_
    simp only [Act.put, List.setIfInBounds_toArray, List.set_cons_zero, List.set_cons_succ]
    refine h_take 16 (.agg (rcs pl pc).toArray) rfl 68 rfl (by kernel_rfl) (by kernel_rfl) (by kernel_rfl) (by kernel_rfl) (fun _ _ _ h => h) (fun w' hC => run_op_load _ _ rfl X 0 rfl (rcs pl pc) (row_all (xz.old hC)) (sz_ring' HPC.out)) hS2 ?_
    simp only [Act.put, List.setIfInBounds_toArray, List.set_cons_zero, List.set_cons_succ]
    refine h_take 17 (.agg (rcs pl pc).toArray) rfl 69 rfl (by kernel_rfl) (by kernel_rfl) (by kernel_rfl) (by kernel_rfl) (fun _ _ _ h => h) (fun w' hC => run_op_load _ _ rfl Y 0 rfl (rcs pl pc) (row_all (yz.old hC)) (sz_rref' HPC.out)) hS2 ?_
    simp only [Act.put, List.setIfInBounds_toArray, List.set_cons_zero, List.set_cons_succ]
    refine h_take 18 (.bool true) rfl 70 rfl (by kernel_rfl) (by kernel_rfl) (by kernel_rfl) (by kernel_rfl) (fun _ _ _ h => h) (fun w' _ => (run_op_eqlRR _ _ _ rfl pl pl pc pc HPC.out HPC.out rfl rfl w').trans (by simp)) hS2 ?_
    simp only [Act.put, List.setIfInBounds_toArray, List.set_cons_zero, List.set_cons_succ]
    refine h_take 19 (.bool true) rfl 71 rfl (by kernel_rfl) (by kernel_rfl) (by kernel_rfl) (by kernel_rfl) (fun _ _ _ h => h) (fun w' _ => by kernel_rfl) hS2 ?_
    simp only [Act.put, List.setIfInBounds_toArray, List.set_cons_zero, List.set_cons_succ]
    refine h_take 20 (.bool true) rfl 72 rfl (by kernel_rfl) (by kernel_rfl) (by kernel_rfl) (by kernel_rfl) (fun _ _ _ h => h) (fun w' _ => by kernel_rfl) hS2 ?_
    simp only [Act.put, List.setIfInBounds_toArray, List.set_cons_zero, List.set_cons_succ]
    refine h_take 21 (.int .i64 pe) rfl 73 rfl (by kernel_rfl) (by kernel_rfl) (by kernel_rfl) (by kernel_rfl) (fun _ _ _ h => h) (fun w' _ => by kernel_rfl) hS2 ?_
    simp only [Act.put, List.setIfInBounds_toArray, List.set_cons_zero, List.set_cons_succ]
    refine h_take 22 (.int .i64 pe) rfl 74 rfl (by kernel_rfl) (by kernel_rfl) (by kernel_rfl) (by kernel_rfl) (fun _ _ _ h => h) (fun w' _ => by kernel_rfl) hS2 ?_
    simp only [Act.put, List.setIfInBounds_toArray, List.set_cons_zero, List.set_cons_succ]
    refine h_take 23 (.bool true) rfl 75 rfl (by kernel_rfl) (by kernel_rfl) (by kernel_rfl) (by kernel_rfl) (fun _ _ _ h => h) (fun w' _ => (run_op_eqlI _ _ .i64 (by kernel_rfl) _ _ rfl .i64 _ _ rfl rfl w').trans (by rw [eqI_same])) hS2 ?_
    simp only [Act.put, List.setIfInBounds_toArray, List.set_cons_zero, List.set_cons_succ]
    refine h_take 24 (.bool true) rfl 76 rfl (by kernel_rfl) (by kernel_rfl) (by kernel_rfl) (by kernel_rfl) (fun _ _ _ h => h) (fun w' _ => by kernel_rfl) hS2 ?_
    simp only [Act.put, List.setIfInBounds_toArray, List.set_cons_zero, List.set_cons_succ]
    refine h_take 25 (.bool true) rfl 4 rfl (by kernel_rfl) (by kernel_rfl) (by kernel_rfl) (by kernel_rfl) (fun _ _ _ h => h) (fun w' _ => by kernel_rfl) hS2 ?_
    simp only [Act.put, List.setIfInBounds_toArray, List.set_cons_zero, List.set_cons_succ]
    refine wpAnyH_done (by kernel_rfl) ?_ _
    have belF : Below w.heap.size w y2 := below_step belz belz.size hS2
    go_wp2_with fail
    go_ret
    exact ⟨rfl, belF⟩
  · have HV : Hid (decide (Rt L cs) = false) := decide_eq_false hv
    clear hv
    go_enter Try.func3, Try.ntmps3
    go_wp2_with (first
      | ((with_reducible refine at_slot 2 ?_); (refine arm_box (o := ⟨some 2, _, _, _, _, _⟩) rfl _ _ rfl (rcs L cs) rfl ?_); intro B w1 hBe hR1 hN1))
    refine (awake_any _).mono ?_
    rintro e w2 ⟨rfl, hB2⟩
    have hR2 := hR1.old hB2
    have bel2 : Below w.heap.size w w2 := below_step hN1.below hN1.below.size hB2
    clear hBe hR1 hN1 hB2
    clear w1
    go_wp2_with fail
    refine wp_region_held (S := fun w' => Below w2.drew.heap.size w2.drew w') (by kernel_rfl) ?_
    change wpAnyH _ _ _ _ _ _ _ _ w2.drew
    have rz : Row w2.drew B 25 (rcs L cs) := hR2
    have belz : Below w.heap.size w w2.drew := bel2.trans ((Below.refl _ _).drew)
    generalize w2.drew = wz at belz rz ⊢
    clear hR2 bel2 w2
    have hS : Below wz.heap.size wz wz := Below.refl _ _
    refine h_take 0 (.agg (rcs L cs).toArray) rfl 15 rfl (by kernel_rfl) (by kernel_rfl) (by kernel_rfl) (by kernel_rfl) (fun _ _ _ h => h) (fun w' hC => run_op_load _ _ rfl B 0 rfl (rcs L cs) (row_all (rz.old hC)) (sz_ring' HL.out)) hS ?_
    simp only [Act.put, List.setIfInBounds_toArray, List.set_cons_zero, List.set_cons_succ]
    refine h_take 2 (.agg (rcs L cs).toArray) rfl 17 rfl (by kernel_rfl) (by kernel_rfl) (by kernel_rfl) (by kernel_rfl) (fun _ _ _ h => h) (fun w' hC => run_op_load _ _ rfl B 0 rfl (rcs L cs) (row_all (rz.old hC)) (sz_ring' HL.out)) hS ?_
    simp only [Act.put, List.setIfInBounds_toArray, List.set_cons_zero, List.set_cons_succ]
    refine h_one (i := 1) (by kernel_rfl) (o_call rfl 16 rfl (by kernel_rfl) (run_op_call 8 _ _ rfl #[.agg (rcs L cs).toArray] (by simp only [List.map_toArray, List.map_cons, List.map_nil]; rfl) Try.func8 (by kernel_rfl) (by kernel_rfl) _) (right_any L cs _ hL HC.out HL.out) ?_)
    rw [HV.out]
    rintro e y1 ⟨rfl, hB1⟩
    have hS1 : Below wz.heap.size wz y1 := below_step hS hS.size hB1
    refine ⟨_, rfl, hS1, ?_⟩
    clear hB1
    simp only [Act.put, List.setIfInBounds_toArray, List.set_cons_zero, List.set_cons_succ]
    refine h_one (i := 3) (by kernel_rfl) (o_call rfl 18 rfl (by kernel_rfl) (run_op_call 9 _ _ rfl #[.agg (rcs L cs).toArray] (by simp only [List.map_toArray, List.map_cons, List.map_nil]; rfl) Try.func9 (by kernel_rfl) (by kernel_rfl) _) (rright_any L cs _ hL HL.out) ?_)
    rw [HV.out]
    rintro e y2 ⟨rfl, hB2⟩
    have hS2 : Below wz.heap.size wz y2 := below_step hS1 hS1.size hB2
    refine ⟨_, rfl, hS2, ?_⟩
    clear hB2
    simp only [Act.put, List.setIfInBounds_toArray, List.set_cons_zero, List.set_cons_succ]
    refine h_take 4 (.bool false) rfl 19 rfl (by kernel_rfl) (by kernel_rfl) (by kernel_rfl) (by kernel_rfl) (fun _ _ _ h => h) (fun w' _ => by kernel_rfl) hS2 ?_
    simp only [Act.put, List.setIfInBounds_toArray, List.set_cons_zero, List.set_cons_succ]
    refine h_take 5 (.bool false) rfl 20 rfl (by kernel_rfl) (by kernel_rfl) (by kernel_rfl) (by kernel_rfl) (fun _ _ _ h => h) (fun w' _ => by kernel_rfl) hS2 ?_
    simp only [Act.put, List.setIfInBounds_toArray, List.set_cons_zero, List.set_cons_succ]
    refine h_one (i := 6) (by kernel_rfl) (o_call rfl 21 rfl (by kernel_rfl) (run_op_call 10 _ _ rfl #[] (by simp only [List.map_toArray, List.map_nil]) Try.func10 (by kernel_rfl) (by kernel_rfl) _) (genesis_any _) ?_)
    rintro e y3 ⟨rfl, hB3⟩
    have hS3 : Below wz.heap.size wz y3 := below_step hS2 hS2.size hB3
    refine ⟨_, rfl, hS3, ?_⟩
    clear hB3
    simp only [Act.put, List.setIfInBounds_toArray, List.set_cons_zero, List.set_cons_succ]
    refine h_one (i := 7) (by kernel_rfl) (o_call rfl 22 rfl (by kernel_rfl) (run_op_call 11 _ _ rfl #[] (by simp only [List.map_toArray, List.map_nil]) Try.func11 (by kernel_rfl) (by kernel_rfl) _) (rgenesis_any _) ?_)
    rintro e y4 ⟨rfl, hB4⟩
    have hS4 : Below wz.heap.size wz y4 := below_step hS3 hS3.size hB4
    refine ⟨_, rfl, hS4, ?_⟩
    clear hB4
    simp only [Act.put, List.setIfInBounds_toArray, List.set_cons_zero, List.set_cons_succ]
    refine h_take 8 (.bool false) rfl 23 rfl (by kernel_rfl) (by kernel_rfl) (by kernel_rfl) (by kernel_rfl) (fun _ _ _ h => h) (fun w' _ => (run_op_neqR _ _ _ rfl 0 0 [1, 3, 3, 3] [1, 3, 3, 3] rfl rfl rfl rfl w').trans rfl) hS4 ?_
    simp only [Act.put, List.setIfInBounds_toArray, List.set_cons_zero, List.set_cons_succ]
    refine h_take 9 (.bool false) rfl 24 rfl (by kernel_rfl) (by kernel_rfl) (by kernel_rfl) (by kernel_rfl) (fun _ _ _ h => h) (fun w' _ => by kernel_rfl) hS4 ?_
    simp only [Act.put, List.setIfInBounds_toArray, List.set_cons_zero, List.set_cons_succ]
    refine wpAnyH_done (by kernel_rfl) ?_ _
    have bel3 : Below w.heap.size w y4 := below_step belz belz.size hS4
    have hR3 := rz.old hS4
    clear belz rz hS hS1 hS2 hS3 hS4 y1 y2 y3 wz
    go_wp2_with (first
      | ((with_reducible refine at_slot 25 ?_); (refine arm_load (o := ⟨some 25, _, _, _, _, _⟩) rfl _ _ rfl B 0 rfl (rcs L cs) (row_all hR3) (sz_ring' HL.out) ?_)))
    refine (rright_any L cs _ hL HL.out).mono ?_
    rw [HV.out]
    rintro e w4 ⟨rfl, hB4⟩
    have bel4 := below_step bel3 bel3.size hB4
    clear hR3 bel3 hB4
    go_wp2_with fail
    go_ret
    exact ⟨rfl, bel4⟩
end Go.Proofs.Ytihmfneoieoopaa.Rg
