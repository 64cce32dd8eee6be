/-
  RingCounts, walked: of blocks, each in a slot, in order, the ring's counts, and what stands ahead of a sub-window, are what is counted in the history. Over this seat's translation.
-/
import Derived.Test.YtihmfneoieoopaaRingHist
import Derived.Test.YtihmfneoieoopaaRingAwake
import Derived.Test.YtihmfneoieoopaaRingLaws2
import Derived.Deep.DeepCutAuto
namespace Go.Proofs.Ytihmfneoieoopaa.Rg
open Go.ChangeShapes Go.WideShapes Go.ChangeAt Go.RowKit Go.Proofs.Ytihmfneoieoopaa.Mem Go.Proofs.Ytihmfneoieoopaa.Bt Go.Proofs.Ytihmfneoieoopaa.Wd
set_option linter.unusedVariables false
set_option linter.unusedSimpArgs false

theorem run_op_neqI {P : Program} {o : Oper} {a : Act} (t t' : TypeId) (k' : IntKind) (hu : P.underlying t = some (.int k')) (x y : Operand) (ho : o.op = .binOp .neq t x y t') (k : IntKind) (m n : Int) (hx : a.eval x = .int k m) (hy : a.eval y = .int k n) (w : World) :
    (execOp a.eval o).run P w = .ok (.value (.bool (!(m == n)))) w := by
  unfold execOp
  simp [ho, hx, hy, eqGuard, binOp, Op.intCmp]
  rfl
theorem later_fits (a b s : Nat) (w : World) (hs : s = a + b) (hb : s < 4294967296) :
    Calls Try.prog 18 #[.int .u32 (a : Int), .int .u32 (b : Int)] w fun e w' => e = .returned (.tuple #[.int .u32 (s : Int), .int .i64 0]) ∧ w = w' := by
  have hi : Num.in32 ((a : Int) + (b : Int)) = true := by unfold Num.in32; simp; omega
  have hk : Num.keep32 ((a : Int) + (b : Int)) = (s : Int) := by unfold Num.keep32; rw [if_pos hi]; omega
  have h := Slot.rlater_any (a : Int) (b : Int) w (by omega) (by omega) (by omega) (by omega)
  rw [hi, hk] at h
  exact h
theorem later_over (a b : Nat) (w : World) (ha : a < 4294967296) (hb : b < 4294967296) (hs : 4294967296 ≤ a + b) :
    Calls Try.prog 18 #[.int .u32 (a : Int), .int .u32 (b : Int)] w fun e w' => e = .returned (.tuple #[.int .u32 0, .int .i64 5]) ∧ w = w' := by
  have hi : Num.in32 ((a : Int) + (b : Int)) = false := by unfold Num.in32; simp; omega
  have h := Slot.rlater_any (a : Int) (b : Int) w (by omega) (by omega) (by omega) (by omega)
  rw [hi, Slot.keep32_no0 hi] at h
  exact h
theorem sub_nat (s : Nat) (w : World) (hb : s < 4294967296) :
    Calls Try.prog 19 #[.int .u32 (s : Int)] w fun e w' => e = .returned (.int .u32 ((s / 3 : Nat) : Int)) ∧ w = w' :=
  (Slot.rsub_any (s : Int) w (by omega) (by omega)).mono fun e w' h => ⟨by rw [h.1]; exact congrArg (fun n => Ending.returned (.int .u32 n)) (by omega), h.2⟩

structure RcRel (w : World) (n B base : Nat) (i lv : Value) (wr : World) : Prop where
  ex : ∃ k cap L : Nat, ∃ p : Option Addr, ∃ xs ds : List Nat, k ≤ n ∧ i = .int .i64 k ∧ lv = .slice p xs.length cap ∧ xs.length ≤ k + 1 ∧ Hist xs L ds ∧ O32 wr base p cap xs ∧ Row wr B 25 (rcs L ds)
  bel : Below w.heap.size w wr
  sz : base ≤ wr.heap.size
structure RcIn (w : World) (B base : Nat) (p : Option Addr) (cap : Nat) (xs : List Nat) (L : Nat) (ds : List Nat) (i : Value) (wr : World) : Prop where
  ex : ∃ b : Nat, b ≤ 4 ∧ i = .int .i64 b
  own : O32 wr base p cap xs
  row : Row wr B 25 (rcs L ds)
  bel : Below w.heap.size w wr
  sz : base ≤ wr.heap.size
/-- What is ahead, by what is counted. -/
def ahd (xs : List Nat) (sub : Nat) : Nat → Nat
  | 0 => 0
  | k + 1 => ahd xs sub k + cnt xs ((sub : Int) - ((k + 1 : Nat) : Int))
theorem cnt_le (xs : List Nat) (g : Int) : cnt xs g ≤ xs.length + 3 := by
  unfold cnt
  split
  · omega
  · have := cntIn_le xs g; omega
theorem ahd_le (xs : List Nat) (sub k : Nat) : ahd xs sub k ≤ k * (xs.length + 3) := by
  induction k with
  | zero => exact Nat.zero_le _
  | succ k ih => unfold ahd; have := cnt_le xs ((sub : Int) - ((k + 1 : Nat) : Int)); rw [Nat.succ_mul]; omega
theorem Hist.ahead {xs : List Nat} {L : Nat} {ds : List Nat} (h : Hist xs L ds) {sub : Nat} (hs : L < sub) : befN L ds sub = ahd xs sub 4 := by
  rw [befN_at hs, h.any (by omega), h.any (by omega), h.any (by omega), h.any (by omega)]
  simp only [ahd]
  rw [Nat.zero_add]
  rfl
structure AhRel (w : World) (B base : Nat) (p : Option Addr) (cap : Nat) (xs : List Nat) (sub : Nat) (i n : Value) (wr : World) : Prop where
  ex : ∃ k : Nat, k ≤ 4 ∧ i = .int .i64 ((k : Int) + 1) ∧ n = .int .u32 (ahd xs sub k : Nat)
  own : O32 wr base p cap xs
  bel : Below w.heap.size w wr
theorem run_op_load32 {o : Oper} {a : Act} (x : Operand) (ho : o.op = .load 22 x) (p : Addr) (hx : a.eval x = .pointer (some p)) (v : Value) {w : World} (hc : w.cell? p = some v) : (execOp a.eval o).run Try.prog w = .ok (.value v) w :=
  run_op_load1 22 x ho (.int .u32) (by kernel_rfl) rfl p hx v hc
set_option maxHeartbeats 4000000 in
set_option maxRecDepth 100000 in
theorem ringCounts_any (st : List Nat) (sp : Option Addr) (sc ahead : Nat) (w : World) (hst : C32 w sp sc st) (ha : ahead < 4294967296) :
    Calls Try.prog 4 #[.slice sp st.length sc, .int .u32 (ahead : Int)] w fun e w' => e = .returned (.bool true) ∧ Below w.heap.size w w' := by
  have HR := Lib.hid hst.r; have HT := Lib.hid hst.lt_
  clear hst
  go_enter Try.func4, Try.ntmps4
  go_wp2_with fail
  refine (awake_any _).mono ?_
  rintro e w1 ⟨rfl, hB1⟩
  by_cases h200 : st.length ≤ 200
  · have hd : decide ((200 : Int) < (st.length : Int)) = false := decide_eq_false (by omega)
    go_wp2_with fail
    refine (genesis_any _).mono ?_
    rintro e w2 ⟨rfl, hB2⟩
    have bel2 : Below w.heap.size w w2 := below_step hB1 hB1.size hB2
    clear hB1 hB2
    clear w1
    go_wp2_with (first
      | ((with_reducible refine at_slot 5 ?_); (refine arm_alloc (o := ⟨some 5, _, _, _, _, _⟩) rfl _ rfl (rcs 0 [0, 0, 0, 0]) z_ring ?_); intro B w3 hBe hR3 hN3)
      | ((with_reducible refine arm_store (o := ⟨none, _, _, _, _, _⟩) rfl _ _ _ rfl B 0 rfl (rcs 0 [1, 3, 3, 3]) rfl _ _ hR3 (by rw [rcs_len rfl, z_len]; omega) (rcs_one _ _) (sz_ring' rfl) ?_); intro w4 hR4 hO4 hS4)
      | ((with_reducible refine at_slot 27 ?_); (refine arm_one32 (o := ⟨some 27, _, _, _, _, _⟩) rfl _ rfl 0 (by simp only [List.map_toArray, List.map_cons, List.map_nil]; rfl) ?_); intro S w5 hSe hR5 hN5))
    have eB := hBe.out; have s3 := hN3.size; have s4 := hS4.out; have eS := hSe.out; have s5 := hN5.size; have z2 := bel2.size
    obtain ⟨base, hbase⟩ : ∃ base, base = w4.heap.size := ⟨_, rfl⟩
    have bel5 : Below w.heap.size w w5 := below_step (below_only (below_step bel2 z2 hN3.below) hO4 (by omega) (by omega)) (by omega) hN5.below
    have lB : w.heap.size ≤ B := by omega
    have ltB : B < base := by omega
    have lbs : w.heap.size ≤ base := by omega
    have h0 : RcRel w st.length B base (.int .i64 0) (.slice (some ⟨S, 0, none⟩) 1 1) w5 := ⟨⟨0, 1, 0, some ⟨S, 0, none⟩, [0], [1, 3, 3, 3], by omega, rfl, rfl, by simp, Hist.first, own_row32 hR5 (by omega) (by simp), (hR4.congr (lay_all _ _ (by rw [rcs_len rfl, z_len]))).old hN5.below⟩, bel5, by omega⟩
    clear eB s3 s4 eS s5 z2 hBe hR3 hN3 hR4 hO4 hS4 hSe hR5 hN5 bel5 bel2 hbase
    clear w2 w3 w4
    go_wp2_with fail
    go_loopw [30, 6] (fun i lv wr => RcRel w st.length B base i lv wr) (fun i _ _ => st.length - (intOf i).toNat)
    case atStart => exact h0
    case round =>
      clear h0
      obtain ⟨⟨k, cap, L, p, xs, ds, hk, rfl, rfl, hxl, hH, hO, hRB⟩, hbel, hsz⟩ := hrel
      have HH := Lib.hid hH
      have HDL := Lib.hid hH.len
      have HDS := Lib.hid hH.small
      by_cases hlt : k < st.length
      · obtain ⟨gs, os, hsp, hcs⟩ := (HR.out.below hbel (fun g o e => by
          obtain ⟨g', o', e', hr'⟩ := HR.out.at_ (by intro h; rw [h] at hlt; simp at hlt)
          have e2 := e'.symm.trans e
          have e3 : g' = g := by injection e2 with e2; injection e2
          rw [← e3]; exact range_lt hr' (by intro h; rw [show st = [] by simpa [u32s] using h] at hlt; simp at hlt))).cell hlt
        subst hsp
        have hyb := getD_lt HT.out (by omega) k
        generalize st.getD k 0 = y at hcs hyb
        have ik : (k : Int) < (st.length : Int) := by omega
        obtain ⟨m, hm⟩ : ∃ m, xs.length = m + 1 := ⟨xs.length - 1, by have := List.length_pos_iff.2 hH.ne; omega⟩
        obtain ⟨gl, ol, hpl, hcl⟩ := hO.r32.cell (i := m) (by omega)
        subst hpl
        have hlast : xs.getD m 0 = lastX xs := by unfold lastX; rw [hm]; rfl
        rw [hlast] at hcl
        have hlb := hH.last_lt
        have hm1 : (xs.length : Int) - 1 = (m : Int) := by omega
        have im : (m : Int) < (xs.length : Int) := by omega
        have HM := Lib.hid hm
        obtain ⟨z, hz⟩ : ∃ z, z = lastX xs := ⟨_, rfl⟩
        rw [← hz] at hcl hlb
        have HZ := Lib.hid hz
        clear hz hlast hH hm
        go_wp2_with fail
        by_cases hfit : z + y < 4294967296
        · obtain ⟨s, hs⟩ : ∃ s, s = z + y := ⟨_, rfl⟩
          refine (later_fits z y s _ hs (by omega)).mono ?_
          rintro e w6 ⟨rfl, rfl⟩
          by_cases hy : y = 0
          · subst hy
            have hy0 : (((0 : Nat) : Int) == 0) = true := by decide
            clear hs
            go_wp2_with fail
            go_roundw
            case rel => exact ⟨⟨k + 1, cap, L, _, xs, ds, by omega, by go_num, rfl, by omega, HH.out, hO, hRB⟩, hbel, hsz⟩
            case measure => simp [intOf]; omega
          · have hy0 : ((y : Int) == 0) = false := beq_eq_false_iff_ne.2 (by omega)
            have hsl : lastX xs < s := by rw [← HZ.out]; omega
            have hsb : s < 4294967296 := by omega
            have HF := Lib.hid (HH.out.free hsl)
            have HN := Lib.hid (HH.out.next hsl hsb)
            have hub : s / 3 < 4294967296 := by omega
            have CPUT := fun w0 => Lib.hid (put_ok L (s / 3) ds w0 HF.out.1 hub HF.out.2 HDL.out)
            have HRT := Lib.hid (putd_rt HDS.out HF.out.2)
            have CSUB := fun w0 => Lib.hid (sub_nat s w0 hsb)
            have hsx : xs.length ≤ 201 := by omega
            have HSX := Lib.hid hsx
            obtain ⟨u, hu⟩ : ∃ u, u = s / 3 := ⟨_, rfl⟩
            obtain ⟨pd, hpd⟩ : ∃ pd, pd = putd L ds (s / 3) := ⟨_, rfl⟩
            rw [← hpd] at CPUT HN HRT
            rw [← hu] at CPUT CSUB HN hub HRT
            have HPL := Lib.hid HN.out.len
            have CRT : Hid (∀ w0, Calls Try.prog 8 #[.agg (rcs u pd).toArray] w0 fun e w' => e = .returned (.bool true) ∧ Below w0.heap.size w0 w') := Lib.hid fun w0 => by
              have h := right_any u pd w0 hub (fun x hx => Nat.lt_trans (small_lt HN.out.small HPL.out x hx) (by omega)) HPL.out
              rw [decide_eq_true HRT.out] at h
              exact h
            clear HRT hs hsl hpd hu hcs hcl HZ HF
            go_wp2_with fail
            go_cut [11, 12] (fun nn ee wx => ∃ N : Nat, nn = .pointer (some ⟨N, 0, none⟩) ∧ ee = .int .i64 0 ∧ Row wx N 25 (rcs u pd) ∧ Below wr.heap.size wr wx ∧ wr.heap.size ≤ N)
            case first =>
              obtain ⟨Z, hZ⟩ : ∃ Z, Z = wr.heap.size := ⟨_, rfl⟩
              refine wp_region_held (S := fun w' => Below Z wr.drew w') (by kernel_rfl) ?_
              change wpAnyH _ _ _ _ _ _ _ _ wr.drew
              have rz : Row wr.drew B 25 (rcs L ds) := hRB
              have belz : Below wr.heap.size wr wr.drew := (Below.refl _ _).drew
              have hS : Below Z wr.drew wr.drew := Below.refl _ _
              have ez : wr.drew.heap.size = wr.heap.size := rfl
              have ZL : Hid (Z ≤ wr.drew.heap.size) := Lib.hid (by omega)
              have ltZ : B < Z := by omega
              have ZW := Lib.hid hZ
              generalize wr.drew = wz at rz belz hS ZL ⊢
              clear hZ ez
              refine h_take 0 (.agg (rcs L ds).toArray) rfl 52 rfl (by kernel_rfl) (by kernel_rfl) (by kernel_rfl) (by kernel_rfl) (fun _ _ _ h => h) (fun w' hC => run_op_load _ _ rfl B 0 rfl (rcs L ds) (row_all (rz.below hC ltZ)) (sz_ring' HDL.out)) hS ?_
              simp only [Act.put, List.setIfInBounds_toArray, List.set_cons_zero, List.set_cons_succ]
              refine h_take 1 (.int .u32 (s : Int)) rfl 53 rfl (by kernel_rfl) (by kernel_rfl) (by kernel_rfl) (by kernel_rfl) (fun _ _ _ h => h) (fun w' _ => by kernel_rfl) hS ?_
              simp only [Act.put, List.setIfInBounds_toArray, List.set_cons_zero, List.set_cons_succ]
              refine h_two (i := 2) (j := 7) (by kernel_rfl) ?_ ?_
              · refine (o_call rfl 54 rfl (by kernel_rfl) (run_op_call 19 _ _ rfl #[.int .u32 (s : Int)] (by simp only [List.map_toArray, List.map_cons, List.map_nil]; rfl) Try.func19 (by kernel_rfl) (by kernel_rfl) _) (CSUB _).out ?_)
                rintro e y0 ⟨rfl, rfl⟩
                refine ⟨_, rfl, hS, ?_⟩
                simp only [Act.put, List.setIfInBounds_toArray, List.set_cons_zero, List.set_cons_succ]
                refine h_two (i := 3) (j := 7) (by kernel_rfl) ?_ ?_
                · refine (o_call rfl 55 rfl (by kernel_rfl) (run_op_call 14 _ _ rfl #[.agg (rcs L ds).toArray, .int .u32 (u : Int)] (by simp only [List.map_toArray, List.map_cons, List.map_nil]; rfl) Try.func14 (by kernel_rfl) (by kernel_rfl) _) (CPUT _).out ?_)
                  rintro e y1 ⟨rfl, hB1⟩
                  have hS1 : Below Z wz y1 := below_step hS (Nat.le_trans ZL.out hS.size) hB1
                  refine ⟨_, rfl, hS1, ?_⟩
                  clear hB1
                  simp only [Act.put, List.setIfInBounds_toArray, List.set_cons_zero, List.set_cons_succ]
                  refine h_take 4 (.tuple #[.agg (rcs u pd).toArray, .int .i64 0]) rfl 51 rfl (by kernel_rfl) (by kernel_rfl) (by kernel_rfl) (by kernel_rfl) (fun _ _ _ h => h) (fun w' _ => by kernel_rfl) hS1 ?_
                  simp only [Act.put, List.setIfInBounds_toArray, List.set_cons_zero, List.set_cons_succ]
                  refine h_take 5 (.agg (rcs u pd).toArray) rfl 56 rfl (by kernel_rfl) (by kernel_rfl) (by kernel_rfl) (by kernel_rfl) (fun _ _ _ h => h) (fun w' _ => by kernel_rfl) hS1 ?_
                  simp only [Act.put, List.setIfInBounds_toArray, List.set_cons_zero, List.set_cons_succ]
                  refine h_take 6 (.int .i64 0) rfl 57 rfl (by kernel_rfl) (by kernel_rfl) (by kernel_rfl) (by kernel_rfl) (fun _ _ _ h => h) (fun w' _ => by kernel_rfl) hS1 ?_
                  simp only [Act.put, List.setIfInBounds_toArray, List.set_cons_zero, List.set_cons_succ]
                  refine h_one (i := 7) (by kernel_rfl) (o_value _ rfl 11 rfl (by kernel_rfl) (run_op_alloc _ rfl (rcs 0 [0, 0, 0, 0]) z_ring) ?_)
                  have hN2 := new_alloc y1 (.cells (rcs 0 [0, 0, 0, 0]).toArray 25)
                  have rN2 : Row (y1.alloc (.cells (rcs 0 [0, 0, 0, 0]).toArray 25)) y1.heap.size 25 (rcs 0 [0, 0, 0, 0]) := heap_alloc_new _ _
                  have lN : Z ≤ y1.heap.size := Nat.le_trans ZL.out hS1.size
                  generalize y1.alloc (.cells (rcs 0 [0, 0, 0, 0]).toArray 25) = y2 at hN2 rN2 ⊢
                  have hS2 : Below Z wz y2 := below_step hS1 (Nat.le_trans ZL.out hS1.size) hN2.below
                  clear hN2
                  refine ⟨hS2, ?_⟩
                  generalize y1.heap.size = N at rN2 lN ⊢
                  simp only [Act.put, List.setIfInBounds_toArray, List.set_cons_zero, List.set_cons_succ]
                  refine h_one (i := 8) (by kernel_rfl) (o_skip rfl rfl (by kernel_rfl) (run_op_store _ _ _ rfl N 0 rfl (rcs u pd) rfl _ _ rN2 (by rw [rcs_len HPL.out, z_len]; omega) (rcs_one _ _) (sz_ring' HPL.out)) ?_)
                  have rNf := row_setRow rN2 (lay (rcs 0 [0, 0, 0, 0]) 0 (rcs u pd))
                  have oNf := Only.setRow N y2 (lay (rcs 0 [0, 0, 0, 0]) 0 (rcs u pd)).toArray
                  generalize y2.setRow N (lay (rcs 0 [0, 0, 0, 0]) 0 (rcs u pd)).toArray = yf at rNf oNf ⊢
                  have hSf : Below Z wz yf := below_only hS2 oNf lN (Nat.le_trans ZL.out hS2.size)
                  refine ⟨hSf, ?_⟩
                  refine h_take 9 (.int .i64 0) rfl 12 rfl (by kernel_rfl) (by kernel_rfl) (by kernel_rfl) (by kernel_rfl) (fun _ _ _ h => h) (fun w' _ => by kernel_rfl) hSf ?_
                  simp only [Act.put, List.setIfInBounds_toArray, List.set_cons_zero, List.set_cons_succ]
                  refine wpAnyH_done (by kernel_rfl) ?_ _
                  go_wp2_with fail
                  go_meet
                  exact ⟨N, rfl, rfl, rNf.congr (lay_all _ _ (by rw [rcs_len HPL.out, z_len])), belz.trans (ZW.out ▸ hSf), ZW.out ▸ lN⟩
                · refine (o_value _ rfl 11 rfl (by kernel_rfl) (run_op_alloc _ rfl (rcs 0 [0, 0, 0, 0]) z_ring) ?_)
                  have hN1 := new_alloc wz (.cells (rcs 0 [0, 0, 0, 0]).toArray 25)
                  have rN1 : Row (wz.alloc (.cells (rcs 0 [0, 0, 0, 0]).toArray 25)) wz.heap.size 25 (rcs 0 [0, 0, 0, 0]) := heap_alloc_new _ _
                  have lN : Z ≤ wz.heap.size := Nat.le_trans ZL.out hS.size
                  generalize wz.alloc (.cells (rcs 0 [0, 0, 0, 0]).toArray 25) = y1 at hN1 rN1 ⊢
                  have hS1 : Below Z wz y1 := below_step hS (Nat.le_trans ZL.out hS.size) hN1.below
                  clear hN1
                  refine ⟨hS1, ?_⟩
                  generalize wz.heap.size = N at rN1 lN ⊢
                  simp only [Act.put, List.setIfInBounds_toArray, List.set_cons_zero, List.set_cons_succ]
                  refine h_one (i := 3) (by kernel_rfl) (o_call rfl 55 rfl (by kernel_rfl) (run_op_call 14 _ _ rfl #[.agg (rcs L ds).toArray, .int .u32 (u : Int)] (by simp only [List.map_toArray, List.map_cons, List.map_nil]; rfl) Try.func14 (by kernel_rfl) (by kernel_rfl) _) (CPUT _).out ?_)
                  rintro e y2 ⟨rfl, hB2⟩
                  have hS2 : Below Z wz y2 := below_step hS1 (Nat.le_trans ZL.out hS1.size) hB2
                  refine ⟨_, rfl, hS2, ?_⟩
                  have rN2 := rN1.old hB2
                  clear hB2
                  simp only [Act.put, List.setIfInBounds_toArray, List.set_cons_zero, List.set_cons_succ]
                  refine h_take 4 (.tuple #[.agg (rcs u pd).toArray, .int .i64 0]) rfl 51 rfl (by kernel_rfl) (by kernel_rfl) (by kernel_rfl) (by kernel_rfl) (fun _ _ _ h => h) (fun w' _ => by kernel_rfl) hS2 ?_
                  simp only [Act.put, List.setIfInBounds_toArray, List.set_cons_zero, List.set_cons_succ]
                  refine h_take 5 (.agg (rcs u pd).toArray) rfl 56 rfl (by kernel_rfl) (by kernel_rfl) (by kernel_rfl) (by kernel_rfl) (fun _ _ _ h => h) (fun w' _ => by kernel_rfl) hS2 ?_
                  simp only [Act.put, List.setIfInBounds_toArray, List.set_cons_zero, List.set_cons_succ]
                  refine h_take 6 (.int .i64 0) rfl 57 rfl (by kernel_rfl) (by kernel_rfl) (by kernel_rfl) (by kernel_rfl) (fun _ _ _ h => h) (fun w' _ => by kernel_rfl) hS2 ?_
                  simp only [Act.put, List.setIfInBounds_toArray, List.set_cons_zero, List.set_cons_succ]
                  refine h_one (i := 8) (by kernel_rfl) (o_skip rfl rfl (by kernel_rfl) (run_op_store _ _ _ rfl N 0 rfl (rcs u pd) rfl _ _ rN2 (by rw [rcs_len HPL.out, z_len]; omega) (rcs_one _ _) (sz_ring' HPL.out)) ?_)
                  have rNf := row_setRow rN2 (lay (rcs 0 [0, 0, 0, 0]) 0 (rcs u pd))
                  have oNf := Only.setRow N y2 (lay (rcs 0 [0, 0, 0, 0]) 0 (rcs u pd)).toArray
                  generalize y2.setRow N (lay (rcs 0 [0, 0, 0, 0]) 0 (rcs u pd)).toArray = yf at rNf oNf ⊢
                  have hSf : Below Z wz yf := below_only hS2 oNf lN (Nat.le_trans ZL.out hS2.size)
                  refine ⟨hSf, ?_⟩
                  refine h_take 9 (.int .i64 0) rfl 12 rfl (by kernel_rfl) (by kernel_rfl) (by kernel_rfl) (by kernel_rfl) (fun _ _ _ h => h) (fun w' _ => by kernel_rfl) hSf ?_
                  simp only [Act.put, List.setIfInBounds_toArray, List.set_cons_zero, List.set_cons_succ]
                  refine wpAnyH_done (by kernel_rfl) ?_ _
                  go_wp2_with fail
                  go_meet
                  exact ⟨N, rfl, rfl, rNf.congr (lay_all _ _ (by rw [rcs_len HPL.out, z_len])), belz.trans (ZW.out ▸ hSf), ZW.out ▸ lN⟩
              · refine (o_value _ rfl 11 rfl (by kernel_rfl) (run_op_alloc _ rfl (rcs 0 [0, 0, 0, 0]) z_ring) ?_)
                have hN1 := new_alloc wz (.cells (rcs 0 [0, 0, 0, 0]).toArray 25)
                have rN1 : Row (wz.alloc (.cells (rcs 0 [0, 0, 0, 0]).toArray 25)) wz.heap.size 25 (rcs 0 [0, 0, 0, 0]) := heap_alloc_new _ _
                have lN : Z ≤ wz.heap.size := Nat.le_trans ZL.out hS.size
                generalize wz.alloc (.cells (rcs 0 [0, 0, 0, 0]).toArray 25) = y1 at hN1 rN1 ⊢
                have hS1 : Below Z wz y1 := below_step hS (Nat.le_trans ZL.out hS.size) hN1.below
                clear hN1
                refine ⟨hS1, ?_⟩
                generalize wz.heap.size = N at rN1 lN ⊢
                simp only [Act.put, List.setIfInBounds_toArray, List.set_cons_zero, List.set_cons_succ]
                refine h_one (i := 2) (by kernel_rfl) (o_call rfl 54 rfl (by kernel_rfl) (run_op_call 19 _ _ rfl #[.int .u32 (s : Int)] (by simp only [List.map_toArray, List.map_cons, List.map_nil]; rfl) Try.func19 (by kernel_rfl) (by kernel_rfl) _) (CSUB _).out ?_)
                rintro e y0 ⟨rfl, rfl⟩
                refine ⟨_, rfl, hS1, ?_⟩
                simp only [Act.put, List.setIfInBounds_toArray, List.set_cons_zero, List.set_cons_succ]
                refine h_one (i := 3) (by kernel_rfl) (o_call rfl 55 rfl (by kernel_rfl) (run_op_call 14 _ _ rfl #[.agg (rcs L ds).toArray, .int .u32 (u : Int)] (by simp only [List.map_toArray, List.map_cons, List.map_nil]; rfl) Try.func14 (by kernel_rfl) (by kernel_rfl) _) (CPUT _).out ?_)
                rintro e y2 ⟨rfl, hB2⟩
                have hS2 : Below Z wz y2 := below_step hS1 (Nat.le_trans ZL.out hS1.size) hB2
                refine ⟨_, rfl, hS2, ?_⟩
                have rN2 := rN1.old hB2
                clear hB2
                simp only [Act.put, List.setIfInBounds_toArray, List.set_cons_zero, List.set_cons_succ]
                refine h_take 4 (.tuple #[.agg (rcs u pd).toArray, .int .i64 0]) rfl 51 rfl (by kernel_rfl) (by kernel_rfl) (by kernel_rfl) (by kernel_rfl) (fun _ _ _ h => h) (fun w' _ => by kernel_rfl) hS2 ?_
                simp only [Act.put, List.setIfInBounds_toArray, List.set_cons_zero, List.set_cons_succ]
                refine h_take 5 (.agg (rcs u pd).toArray) rfl 56 rfl (by kernel_rfl) (by kernel_rfl) (by kernel_rfl) (by kernel_rfl) (fun _ _ _ h => h) (fun w' _ => by kernel_rfl) hS2 ?_
                simp only [Act.put, List.setIfInBounds_toArray, List.set_cons_zero, List.set_cons_succ]
                refine h_take 6 (.int .i64 0) rfl 57 rfl (by kernel_rfl) (by kernel_rfl) (by kernel_rfl) (by kernel_rfl) (fun _ _ _ h => h) (fun w' _ => by kernel_rfl) hS2 ?_
                simp only [Act.put, List.setIfInBounds_toArray, List.set_cons_zero, List.set_cons_succ]
                refine h_one (i := 8) (by kernel_rfl) (o_skip rfl rfl (by kernel_rfl) (run_op_store _ _ _ rfl N 0 rfl (rcs u pd) rfl _ _ rN2 (by rw [rcs_len HPL.out, z_len]; omega) (rcs_one _ _) (sz_ring' HPL.out)) ?_)
                have rNf := row_setRow rN2 (lay (rcs 0 [0, 0, 0, 0]) 0 (rcs u pd))
                have oNf := Only.setRow N y2 (lay (rcs 0 [0, 0, 0, 0]) 0 (rcs u pd)).toArray
                generalize y2.setRow N (lay (rcs 0 [0, 0, 0, 0]) 0 (rcs u pd)).toArray = yf at rNf oNf ⊢
                have hSf : Below Z wz yf := below_only hS2 oNf lN (Nat.le_trans ZL.out hS2.size)
                refine ⟨hSf, ?_⟩
                refine h_take 9 (.int .i64 0) rfl 12 rfl (by kernel_rfl) (by kernel_rfl) (by kernel_rfl) (by kernel_rfl) (fun _ _ _ h => h) (fun w' _ => by kernel_rfl) hSf ?_
                simp only [Act.put, List.setIfInBounds_toArray, List.set_cons_zero, List.set_cons_succ]
                refine wpAnyH_done (by kernel_rfl) ?_ _
                go_wp2_with fail
                go_meet
                exact ⟨N, rfl, rfl, rNf.congr (lay_all _ _ (by rw [rcs_len HPL.out, z_len])), belz.trans (ZW.out ▸ hSf), ZW.out ▸ lN⟩
            case rest =>
              obtain ⟨N, rfl, rfl, rN, hbx, lN⟩ := hcut
              have hO1 := hO.old hbx
              have hRB1 := hRB.old hbx
              have bel1 := hbel.trans (hbx.mono hbel.size)
              have sz1 := Nat.le_trans hsz hbx.size
              have nNB : N ≠ B := by omega
              have NNB := Lib.hid nNB
              clear hO hRB hbel hsz hbx lN nNB CPUT
              clear wr
              go_wp2_with fail
              refine wp_region_held (S := fun w' => Below wc.drew.heap.size wc.drew w') (by kernel_rfl) ?_
              change wpAnyH _ _ _ _ _ _ _ _ wc.drew
              have rNz : Row wc.drew N 25 (rcs u pd) := rN
              have rBz : Row wc.drew B 25 (rcs L ds) := hRB1
              have Oz : O32 wc.drew base (some ⟨gl, ol, none⟩) cap xs := hO1.old ((Below.refl _ _).drew)
              have belz : Below w.heap.size w wc.drew := bel1.trans ((Below.refl _ _).drew)
              have szz : base ≤ wc.drew.heap.size := sz1
              generalize wc.drew = wz at rNz rBz Oz belz szz ⊢
              clear rN hRB1 hO1 bel1 sz1
              have hS : Below wz.heap.size wz wz := Below.refl _ _
              refine h_take 0 (.int .i64 0) rfl 58 rfl (by kernel_rfl) (by kernel_rfl) (by kernel_rfl) (by kernel_rfl) (fun _ _ _ h => h) (fun w' _ => by kernel_rfl) hS ?_
              simp only [Act.put, List.setIfInBounds_toArray, List.set_cons_zero, List.set_cons_succ]
              refine h_take 1 (.bool false) rfl 59 rfl (by kernel_rfl) (by kernel_rfl) (by kernel_rfl) (by kernel_rfl) (fun _ _ _ h => h) (fun w' _ => by kernel_rfl) hS ?_
              simp only [Act.put, List.setIfInBounds_toArray, List.set_cons_zero, List.set_cons_succ]
              refine h_take 2 (.bool false) rfl 60 rfl (by kernel_rfl) (by kernel_rfl) (by kernel_rfl) (by kernel_rfl) (fun _ _ _ h => h) (fun w' _ => by kernel_rfl) hS ?_
              simp only [Act.put, List.setIfInBounds_toArray, List.set_cons_zero, List.set_cons_succ]
              refine h_take 3 (.pointer (some ⟨N, 0, none⟩)) rfl 61 rfl (by kernel_rfl) (by kernel_rfl) (by kernel_rfl) (by kernel_rfl) (fun _ _ _ h => h) (fun w' _ => by kernel_rfl) hS ?_
              simp only [Act.put, List.setIfInBounds_toArray, List.set_cons_zero, List.set_cons_succ]
              refine h_take 4 (.int .u32 (u : Int)) rfl 62 rfl (by kernel_rfl) (by kernel_rfl) (by kernel_rfl) (by kernel_rfl) (fun _ _ _ h => h) (fun w' hC => run_op_load32 _ rfl _ rfl _ ((rNz.old hC).cell (rcs_get0 u pd))) hS ?_
              simp only [Act.put, List.setIfInBounds_toArray, List.set_cons_zero, List.set_cons_succ]
              refine h_take 5 (.int .u32 (s : Int)) rfl 63 rfl (by kernel_rfl) (by kernel_rfl) (by kernel_rfl) (by kernel_rfl) (fun _ _ _ h => h) (fun w' _ => by kernel_rfl) hS ?_
              simp only [Act.put, List.setIfInBounds_toArray, List.set_cons_zero, List.set_cons_succ]
              refine h_one (i := 6) (by kernel_rfl) (o_call rfl 64 rfl (by kernel_rfl) (run_op_call 19 _ _ rfl #[.int .u32 (s : Int)] (by simp only [List.map_toArray, List.map_cons, List.map_nil]; rfl) Try.func19 (by kernel_rfl) (by kernel_rfl) _) ((CSUB _).out) ?_)
              rintro e y0 ⟨rfl, rfl⟩
              refine ⟨_, rfl, hS, ?_⟩
              simp only [Act.put, List.setIfInBounds_toArray, List.set_cons_zero, List.set_cons_succ]
              refine h_take 7 (.bool false) rfl 65 rfl (by kernel_rfl) (by kernel_rfl) (by kernel_rfl) (by kernel_rfl) (fun _ _ _ h => h) (fun w' _ => (run_op_neqI _ _ .u32 (by kernel_rfl) _ _ rfl .u32 _ _ rfl rfl w').trans (by rw [eqI_same]; rfl)) hS ?_
              simp only [Act.put, List.setIfInBounds_toArray, List.set_cons_zero, List.set_cons_succ]
              refine h_take 8 (.bool false) rfl 66 rfl (by kernel_rfl) (by kernel_rfl) (by kernel_rfl) (by kernel_rfl) (fun _ _ _ h => h) (fun w' _ => by kernel_rfl) hS ?_
              simp only [Act.put, List.setIfInBounds_toArray, List.set_cons_zero, List.set_cons_succ]
              refine h_take 9 (.bool false) rfl 67 rfl (by kernel_rfl) (by kernel_rfl) (by kernel_rfl) (by kernel_rfl) (fun _ _ _ h => h) (fun w' _ => by kernel_rfl) hS ?_
              simp only [Act.put, List.setIfInBounds_toArray, List.set_cons_zero, List.set_cons_succ]
              refine h_take 10 (.agg (rcs u pd).toArray) rfl 68 rfl (by kernel_rfl) (by kernel_rfl) (by kernel_rfl) (by kernel_rfl) (fun _ _ _ h => h) (fun w' hC => run_op_load _ _ rfl N 0 rfl (rcs u pd) (row_all (rNz.old hC)) (sz_ring' HPL.out)) hS ?_
              simp only [Act.put, List.setIfInBounds_toArray, List.set_cons_zero, List.set_cons_succ]
              refine h_one (i := 11) (by kernel_rfl) (o_call rfl 69 rfl (by kernel_rfl) (run_op_call 8 _ _ rfl #[.agg (rcs u pd).toArray] (by simp only [List.map_toArray, List.map_cons, List.map_nil]; rfl) Try.func8 (by kernel_rfl) (by kernel_rfl) _) (CRT.out _) ?_)
              rintro e y1 ⟨rfl, hB1⟩
              refine ⟨_, rfl, hB1, ?_⟩
              simp only [Act.put, List.setIfInBounds_toArray, List.set_cons_zero, List.set_cons_succ]
              refine h_take 12 (.bool false) rfl 70 rfl (by kernel_rfl) (by kernel_rfl) (by kernel_rfl) (by kernel_rfl) (fun _ _ _ h => h) (fun w' _ => by kernel_rfl) hB1 ?_
              simp only [Act.put, List.setIfInBounds_toArray, List.set_cons_zero, List.set_cons_succ]
              refine h_take 13 (.bool false) rfl 71 rfl (by kernel_rfl) (by kernel_rfl) (by kernel_rfl) (by kernel_rfl) (fun _ _ _ h => h) (fun w' _ => by kernel_rfl) hB1 ?_
              simp only [Act.put, List.setIfInBounds_toArray, List.set_cons_zero, List.set_cons_succ]
              refine wpAnyH_done (by kernel_rfl) ?_ _
              have rNy := rNz.old hB1
              have rBy := rBz.old hB1
              have Oy := Oz.old hB1
              have bely := below_step belz belz.size hB1
              have szy := Nat.le_trans szz hB1.size
              clear rNz rBz Oz belz szz hS hB1 CRT CSUB
              clear wz
              go_wp2_with fail
              refine wp_region_held (S := fun w' => Row w' N 25 (rcs u pd)) (by kernel_rfl) ?_
              change wpAnyH _ _ _ _ _ _ _ _ y1.drew
              have rNz : Row y1.drew N 25 (rcs u pd) := rNy
              have rBz : Row y1.drew B 25 (rcs L ds) := rBy
              have Oz : O32 y1.drew base (some ⟨gl, ol, none⟩) cap xs := Oy.old ((Below.refl _ _).drew)
              have belz : Below w.heap.size w y1.drew := bely.trans ((Below.refl _ _).drew)
              have szz : base ≤ y1.drew.heap.size := szy
              generalize y1.drew = wz at rNz rBz Oz belz szz ⊢
              clear rNy rBy Oy bely szy
              clear y1
              refine h_take 0 (.agg (rcs u pd).toArray) rfl 72 rfl (by kernel_rfl) (by kernel_rfl) (by kernel_rfl) (by kernel_rfl) (fun _ _ _ h => h) (fun w' hC => run_op_load _ _ rfl N 0 rfl (rcs u pd) (row_all hC) (sz_ring' HPL.out)) rNz ?_
              simp only [Act.put, List.setIfInBounds_toArray, List.set_cons_zero, List.set_cons_succ]
              refine h_take 1 (.slice (some ⟨gl, ol, none⟩) xs.length cap) rfl 73 rfl (by kernel_rfl) (by kernel_rfl) (by kernel_rfl) (by kernel_rfl) (fun _ _ _ h => h) (fun w' _ => by kernel_rfl) rNz ?_
              simp only [Act.put, List.setIfInBounds_toArray, List.set_cons_zero, List.set_cons_succ]
              refine h_take 2 (.int .u32 (s : Int)) rfl 74 rfl (by kernel_rfl) (by kernel_rfl) (by kernel_rfl) (by kernel_rfl) (fun _ _ _ h => h) (fun w' _ => by kernel_rfl) rNz ?_
              simp only [Act.put, List.setIfInBounds_toArray, List.set_cons_zero, List.set_cons_succ]
              refine h_one (i := 3) (by kernel_rfl) (o_value _ rfl 75 rfl (by kernel_rfl) (run_op_one32 _ rfl s (by simp only [List.map_toArray, List.map_cons, List.map_nil]; rfl)) ?_)
              have hN2 := new_alloc wz (.cells (u32s [s]).toArray 22)
              have rS2 : Row (wz.alloc (.cells (u32s [s]).toArray 22)) wz.heap.size 22 (u32s [s]) := heap_alloc_new _ _
              generalize wz.alloc (.cells (u32s [s]).toArray 22) = y2 at hN2 rS2 ⊢
              have rN2 := rNz.old hN2.below
              refine ⟨rN2, ?_⟩
              have rB2 := rBz.old hN2.below
              have O2 := Oz.old hN2.below
              have bel2 := below_step belz belz.size hN2.below
              have sz2 := Nat.le_trans szz hN2.below.size
              clear rNz rBz Oz belz szz hN2
              generalize wz.heap.size = S2 at rS2 ⊢
              clear wz
              simp only [Act.put, List.setIfInBounds_toArray, List.set_cons_zero, List.set_cons_succ]
              refine h_one (i := 4) (by kernel_rfl) (o_append32 rfl 76 rfl (by kernel_rfl) _ _ rfl base (some ⟨gl, ol, none⟩) xs.length cap xs rfl rfl O2 S2 1 1 [s] rfl rfl (row_all rS2) (by have := HSX.out; simp only [List.length_cons, List.length_nil]; omega) sz2 ?_)
              intro p3 cap3 y3 O3 b3 k3
              have rN3 := k3 N _ _ (by decide) rN2
              have rB3 := k3 B _ _ (by decide) rB2
              refine ⟨rN3, ?_⟩
              have bel3 := bel2.trans (b3.mono lbs)
              have sz3 := Nat.le_trans sz2 b3.size
              clear rS2 rN2 rB2 O2 bel2 sz2 b3 k3
              clear y2
              simp only [Act.put, List.setIfInBounds_toArray, List.set_cons_zero, List.set_cons_succ]
              refine h_one (i := 5) (by kernel_rfl) (o_skip rfl rfl (by kernel_rfl) (run_op_store _ _ _ rfl B 0 rfl (rcs u pd) rfl _ _ rB3 (by rw [rcs_len HPL.out, rcs_len HDL.out]; omega) (rcs_one _ _) (sz_ring' HPL.out)) ?_)
              have rB4 : Row _ B 25 (rcs u pd) := (row_setRow rB3 (lay (rcs L ds) 0 (rcs u pd))).congr (lay_all _ _ (by rw [rcs_len HPL.out, rcs_len HDL.out]))
              have o4 := Only.setRow B y3 (lay (rcs L ds) 0 (rcs u pd)).toArray
              generalize y3.setRow B (lay (rcs L ds) 0 (rcs u pd)).toArray = y4 at rB4 o4 ⊢
              have rN4 := rN3.only o4 NNB.out
              refine ⟨rN4, ?_⟩
              have O4 := O3.only o4 ltB
              have bel4 := below_only bel3 o4 lB bel3.size
              have sz4 := Nat.le_trans sz3 o4.size
              clear rN3 rB3 O3 bel3 sz3 o4
              clear y3
              refine h_take 6 (.slice p3 (xs ++ [s]).length cap3) rfl 6 rfl (by kernel_rfl) (by kernel_rfl) (by kernel_rfl) (by kernel_rfl) (fun _ _ _ h => h) (fun w' _ => by kernel_rfl) rN4 ?_
              simp only [Act.put, List.setIfInBounds_toArray, List.set_cons_zero, List.set_cons_succ]
              refine wpAnyH_done (by kernel_rfl) ?_ _
              have hxl2 : (xs ++ [s]).length ≤ k + 2 := by rw [List.length_append, List.length_singleton]; omega
              generalize xs ++ [s] = xs2 at HN O4 hxl2 ⊢
              clear rN4 HH HDL HM HSX hxl
              go_wp2_with fail
              have h1 : RcIn w B base p3 cap3 xs2 u pd (.int .i64 0) y4 := ⟨⟨0, by omega, rfl⟩, O4, rB4, bel4, sz4⟩
              clear O4 rB4 bel4 sz4
              go_loopw [13] (fun i wq => RcIn w B base p3 cap3 xs2 u pd i wq) (fun i _ => 4 - (intOf i).toNat)
              case atStart => exact h1
              case round =>
                clear h1
                obtain ⟨⟨b, hb4, rfl⟩, hOq, hRq, hbq, hzq⟩ := hrel
                by_cases hbl : b < 4
                · have ib : decide ((b : Int) < 4) = true := decide_eq_true (by omega)
                  obtain ⟨g, hg⟩ : ∃ g : Int, g = (u : Int) - (b : Int) := ⟨_, rfl⟩
                  have hgi : (u : Int) - (b : Int) = g := hg.symm
                  have hat := HN.out.at_ g (by omega) (by omega)
                  rw [atG_in (by omega) (by omega)] at hat
                  have htm := tmod4 g
                  have hrr := tmod_bd g
                  have hj : (g % 4).toNat < 4 := by omega
                  have hjj : g % 4 = (((g % 4).toNat : Nat) : Int) := by omega
                  rw [hjj] at htm
                  generalize (g % 4).toNat = j at hj hjj hat htm
                  have cB0 := hRq.cell (rcs_get0 u pd)
                  have cBj := hRq.cell (rcs_get (L := u) (cs := pd) (i := j) (by rw [HPL.out]; exact hj))
                  rw [hat] at cBj
                  have CCN := Lib.hid (counted_any xs2 p3 cap3 g)
                  have hne : ((cnt xs2 g : Int) != (cnt xs2 g : Int)) = false := by simp
                  generalize cnt xs2 g = c at cBj CCN hne
                  have ij : (j : Int) < 4 := by omega
                  have hg1 : -4 < g := by omega
                  have hg2 : g < 4294967296 := by omega
                  clear hat hg hjj
                  go_wp2_with fail
                  go_quiet (first | (go_at_call 20; exact Calls.quiet_of_same ((CCN.out _ (hOq.old (below_drewN _ _ _)).r32 HN.out.lt_ (by omega)).mono fun _ _ h => ⟨h.1, h.2.symm⟩)))
                  have hOn := hOq.old (below_drewN wr.heap.size wr nq)
                  have hRn : Row (wr.drewN nq) B 25 (rcs u pd) := hRq.drewN
                  have hbn := hbq.trans (below_drewN w.heap.size wr nq)
                  have hzn : base ≤ (wr.drewN nq).heap.size := hzq
                  generalize wr.drewN nq = wq at hOn hRn hbn hzn ⊢
                  clear hOq hRq hbq hzq cB0 cBj CCN hne
                  go_wp2_with fail
                  go_roundw
                  case rel => exact ⟨⟨b + 1, by omega, by go_num⟩, hOn, hRn, hbn, hzn⟩
                  case measure => simp [intOf]; omega
                · obtain rfl : b = 4 := by omega
                  have ib : decide (((4 : Nat) : Int) < 4) = false := by decide
                  go_wp2_with fail
                  go_roundw
                  case rel => exact ⟨⟨k + 1, cap3, u, p3, xs2, pd, by omega, by go_num, rfl, by omega, HN.out, hOq, hRq⟩, hbq, hzq⟩
                  case measure => simp [intOf]; omega
        · refine (later_over z y _ hlb hyb (by omega)).mono ?_
          rintro e w6 ⟨rfl, rfl⟩
          clear hcs hcl
          go_wp2_with fail
          go_roundw
          case rel => exact ⟨⟨k + 1, cap, L, _, xs, ds, by omega, by go_num, rfl, by omega, HH.out, hO, hRB⟩, hbel, hsz⟩
          case measure => simp [intOf]; omega
      · obtain rfl : k = st.length := by omega
        have cB0 := hRB.cell (rcs_get0 L ds)
        have hLb : L < 4294967296 := by have := hH.last; have := hH.last_lt; omega
        have ik : decide ((st.length : Int) < (st.length : Int)) = false := decide_eq_false (by omega)
        clear hH
        go_wp2_with fail
        by_cases hfit : L + ahead < 4294967296
        · obtain ⟨sub, hsub⟩ : ∃ sub, sub = L + ahead := ⟨_, rfl⟩
          refine (later_fits L ahead sub _ hsub (by omega)).mono ?_
          rintro e w6 ⟨rfl, rfl⟩
          by_cases hy : ahead = 0
          · subst hy
            have hy0 : (((0 : Nat) : Int) == 0) = true := by decide
            clear hsub
            go_wp2_with fail
            go_ret
            exact ⟨rfl, hbel⟩
          · have hy0 : ((ahead : Int) == 0) = false := beq_eq_false_iff_ne.2 (by omega)
            have hLs : L < sub := by omega
            have hsb : sub < 4294967296 := by omega
            have HE : Hid (befE L sub = 0) := befE_ok hLs
            have HAH := Lib.hid (HH.out.ahead hLs)
            clear hsub
            go_wp2_with (first
              | ((with_reducible refine at_slot 112 ?_); (refine arm_load (o := ⟨some 112, _, _, _, _, _⟩) rfl _ _ rfl B 0 rfl (rcs L ds) (row_all hRB) (sz_ring' HDL.out) ?_)))
            refine (before_any L sub ds _ hLb hsb HDS.out HDL.out).mono ?_
            rw [HE.out, HAH.out]
            rintro e w7 ⟨rfl, hB7⟩
            have hO7 := hO.old hB7
            have bel7 := below_step hbel hbel.size hB7
            clear hO hRB hbel hsz hB7 cB0 HE HAH
            have h1 : AhRel w B base p cap xs sub (.int .i64 1) (.int .u32 0) w7 := ⟨⟨0, by omega, rfl, rfl⟩, hO7, bel7⟩
            clear hO7 bel7
            have hxl2 : xs.length ≤ 201 := by omega
            have HXL := Lib.hid hxl2
            clear hxl hxl2
            go_wp2_with fail
            go_loopw [20, 19] (fun i n wq => AhRel w B base p cap xs sub i n wq) (fun i _ _ => 5 - (intOf i).toNat)
            case atStart => exact h1
            case round =>
              clear h1
              obtain ⟨⟨q, hq, rfl, rfl⟩, hOq, hbq⟩ := hrel
              by_cases hq4 : q < 4
              · have iq : decide ((q : Int) + 1 ≤ 4) = true := decide_eq_true (by omega)
                have hle := ahd_le xs sub q
                have hcl := cnt_le xs ((sub : Int) - ((q : Int) + 1))
                have hql : q * (xs.length + 3) ≤ 3 * 204 := Nat.mul_le_mul (by omega) (by have := HXL.out; omega)
                have hxx := HXL.out
                have hst : Hid (ahd xs sub (q + 1) = ahd xs sub q + cnt xs ((sub : Int) - ((q : Int) + 1))) := rfl
                generalize ahd xs sub q = n at hle hst
                have hn1 : n ≤ 612 := by omega
                go_wp2_with fail
                refine (counted_any xs p cap ((sub : Int) - ((q : Int) + 1)) _ hOq.r32 HH.out.lt_ (by omega)).mono ?_
                rintro e w8 ⟨rfl, rfl⟩
                generalize cnt xs ((sub : Int) - ((q : Int) + 1)) = x at hcl hst ⊢
                have hx1 : x ≤ 204 := by omega
                clear hcl hxx hle hql
                go_wp2_with fail
                go_roundw
                case rel => exact ⟨⟨q + 1, by omega, by go_num, by rw [hst.out]; congr 1⟩, hOq, hbq⟩
                case measure => simp [intOf]; omega
              · obtain rfl : q = 4 := by omega
                have iq : decide (((4 : Nat) : Int) + 1 ≤ 4) = false := by decide
                have iq2 : decide ((4 : Int) + 1 ≤ 4) = false := by decide
                go_wp2_with fail
                go_ret
                exact ⟨rfl, hbq⟩
        · refine (later_over L ahead _ hLb ha (by omega)).mono ?_
          rintro e w6 ⟨rfl, rfl⟩
          go_wp2_with fail
          go_ret
          exact ⟨rfl, hbel⟩
  · have hd : decide ((200 : Int) < (st.length : Int)) = true := decide_eq_true (by omega)
    go_wp2_with fail
    go_ret
    exact ⟨rfl, hB1⟩
end Go.Proofs.Ytihmfneoieoopaa.Rg
