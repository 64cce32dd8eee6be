/-
  The contract of layer 10's whole, walked. Over this seat's translation.
-/
import Derived.Test.YtmohlcmhogbkjaaDoorGroWhole
import Derived.BigQuiet
namespace Go.Proofs.YtmohlcmhogbkjaaDoor.Gr
open Go.ChangeShapes Go.WideShapes Go.ChangeAt Go.RowKit Go.Proofs.YtmohlcmhogbkjaaDoor.Mem Go.Proofs.YtmohlcmhogbkjaaDoor.Bt Go.Proofs.YtmohlcmhogbkjaaDoor.Rg Go.Proofs.YtmohlcmhogbkjaaDoor.Wn Go.Proofs.YtmohlcmhogbkjaaDoor.Wd
set_option linter.unusedVariables false
set_option linter.unusedSimpArgs false

structure WhRel (w : World) (p : Option Addr) (xs : List Nat) (i n : Value) (wr : World) : Prop where
  ex : ∃ k : Nat, k ≤ xs.length ∧ i = .int .i64 k ∧ n = .int .u32 (loopW xs k : Nat)
  bel : Below w.heap.size w wr
  r : R32 wr p xs
structure WiRel (w : World) (p : Option Addr) (xs : List Nat) (k a : Nat) (i n : Value) (wr : World) : Prop where
  ex : ∃ j : Nat, j ≤ 4 ∧ i = .int .i64 ((j : Int) + 1) ∧ n = .int .u32 (ahd (xs.take k) a j : Nat)
  bel : Below w.heap.size w wr
  r : R32 wr p xs
theorem num_min2 (x y : Nat) : (if (y : Int) < (x : Int) then (y : Int) else (x : Int)) = ((min x y : Nat) : Int) := by split <;> omega
theorem run_op_add32 {P : Program} {o : Oper} {a : Act} (t t' : TypeId) (x y : Operand) (ho : o.op = .binOp .add t x y t') (m n r : Int) (hx : a.eval x = .int .u32 m) (hy : a.eval y = .int .u32 n) (hr : (m + n) % 4294967296 = r) (w : World) :
    (execOp a.eval o).run P w = .ok (.value (.int .u32 r)) w := by
  subst hr
  unfold execOp
  simp [ho, hx, hy, eqGuard, binOp, Op.intArith, IntKind.wrap, IntKind.signed, IntKind.bits]
theorem run_op_sub64 {P : Program} {o : Oper} {a : Act} (t t' : TypeId) (x y : Operand) (ho : o.op = .binOp .sub t x y t') (m n r : Int) (hx : a.eval x = .int .i64 m) (hy : a.eval y = .int .i64 n) (hr : IntKind.i64.wrap (m - n) = r) (w : World) :
    (execOp a.eval o).run P w = .ok (.value (.int .i64 r)) w := by
  subst hr
  unfold execOp
  simp [ho, hx, hy, eqGuard, binOp, Op.intArith]
set_option maxHeartbeats 4000000 in
set_option maxRecDepth 100000 in
theorem whole_any (xs : List Nat) (p : Option Addr) (cap : Nat) (w : World) (hr : R32 w p xs) (ht : AllLt 4294967296 xs) (hn : xs.length ≤ 1000) (hcp : xs.length ≤ cap) :
    Calls Tryd.prog 16 #[.slice p xs.length cap] w fun e w' => e = .returned (.int .u32 (wholeN xs : Nat)) ∧ Below w.heap.size w w' := by
  have HT := Lib.hid ht
  have h0 : WhRel w p xs (.int .i64 0) (.int .u32 12) w := ⟨⟨0, by omega, rfl, rfl⟩, Below.refl _ _, hr⟩
  clear ht hr
  go_enter Tryd.func16, Tryd.ntmps16
  go_wp2_with fail
  go_loopw [10, 3] (fun i n wr => WhRel w p xs i n wr) (fun i _ _ => xs.length - (intOf i).toNat)
  case atStart => exact h0
  case round =>
    clear h0
    obtain ⟨⟨k, hk, rfl, rfl⟩, bel, hR⟩ := hrel
    by_cases hlt : k < xs.length
    · obtain ⟨G, o, rfl, hc⟩ := hR.cell hlt
      have hyb := getD_lt HT.out (by omega) k
      have hstep := Lib.hid (show loopW xs (k + 1) = stepW xs k (loopW xs k) from rfl)
      have hole := loopW_le xs k
      obtain ⟨y, hy⟩ : ∃ y : Nat, y = xs.getD k 0 := ⟨_, rfl⟩
      rw [← hy] at hc hyb
      have HY := Lib.hid hy
      clear hy
      generalize hoo : loopW xs k = oo at hstep hole ⊢
      clear hoo
      have ik : (k : Int) < (xs.length : Int) := by omega
      by_cases hk0 : k = 0
      · have HS : Hid (stepW xs k oo = oo) := Lib.hid (if_pos (.inl hk0))
        have hk1 : ((k : Int) == 0) = true := by rw [hk0]; rfl
        clear hk0
        go_wp2_with fail
        go_quiet (fail)
        have belz : Below w.heap.size w (wr.drewN nq) := bel.trans (below_drewN _ _ _)
        have hRz : R32 (wr.drewN nq) (some ⟨G, o, none⟩) xs := hR.old (below_drewN wr.heap.size wr nq)
        generalize wr.drewN nq = wz at belz hRz ⊢
        clear hc bel hR
        go_wp2_with fail
        go_roundw
        case rel => exact ⟨⟨k + 1, by omega, by go_num, by rw [hstep.out, HS.out]⟩, belz, hRz⟩
        case measure => simp [intOf]; omega
      · have hk1 : ((k : Int) == 0) = false := beq_eq_false_iff_ne.2 (by omega)
        obtain ⟨m, hm⟩ : ∃ m, k = m + 1 := ⟨k - 1, by omega⟩
        have hkm : (k : Int) - 1 = (m : Int) := by omega
        obtain ⟨G2, o2, hp2, hcm⟩ := hR.cell (i := m) (by omega)
        obtain ⟨rfl, rfl⟩ : G = G2 ∧ o = o2 := by simpa using hp2
        have hvb := getD_lt HT.out (by omega) m
        obtain ⟨v, hv⟩ : ∃ v : Nat, v = xs.getD m 0 := ⟨_, rfl⟩
        rw [← hv] at hcm hvb
        have HV := Lib.hid hv
        have im : (m : Int) < (xs.length : Int) := by omega
        have HM := Lib.hid hm
        clear hv hp2 hm
        by_cases h12 : y < 12
        · have hd1 : decide ((y : Int) < 12) = true := decide_eq_true (by omega)
          have hd2 : decide (y < 12) = true := decide_eq_true h12
          have HS : Hid (stepW xs k oo = oo) := Lib.hid (if_pos (.inr (.inl (by rw [← HY.out]; exact h12))))
          clear hcm
          go_wp2_with fail
          go_quiet (fail)
          have belz : Below w.heap.size w (wr.drewN nq) := bel.trans (below_drewN _ _ _)
          have hRz : R32 (wr.drewN nq) (some ⟨G, o, none⟩) xs := hR.old (below_drewN wr.heap.size wr nq)
          generalize wr.drewN nq = wz at belz hRz ⊢
          clear hc bel hR
          go_wp2_with fail
          go_roundw
          case rel => exact ⟨⟨k + 1, by omega, by go_num, by rw [hstep.out, HS.out]⟩, belz, hRz⟩
          case measure => simp [intOf]; omega
        · have hd1 : decide ((y : Int) < 12) = false := decide_eq_false (by omega)
          have hd2 : decide (y < 12) = false := decide_eq_false h12
          have CY := Lib.hid (fun w0 => sub_nat y w0 hyb)
          have CV := Lib.hid (fun w0 => sub_nat v w0 hvb)
          by_cases hq : y / 3 = v / 3
          · have HS : Hid (stepW xs k oo = oo) := Lib.hid (if_pos (.inr (.inr (by rw [← HY.out, show k - 1 = m by have := HM.out; omega, ← HV.out]; exact hq))))
            have hq1 : (((y / 3 : Nat) : Int) == ((v / 3 : Nat) : Int)) = true := by rw [hq]; exact beq_self_eq_true _
            have hq2 : ((y / 3) == (v / 3)) = true := by rw [hq]; exact beq_self_eq_true _
            clear hq
            generalize y / 3 = a at CY hq1 hq2
            generalize v / 3 = b at CV hq1 hq2
            go_wp2_with fail
            go_quiet (first | (go_at_call 17; first | exact Calls.quiet_of_same ((CY.out _).mono fun _ _ h => ⟨h.1, h.2.symm⟩) | exact Calls.quiet_of_same ((CV.out _).mono fun _ _ h => ⟨h.1, h.2.symm⟩)))
            have belz : Below w.heap.size w (wr.drewN nq) := bel.trans (below_drewN _ _ _)
            have hRz : R32 (wr.drewN nq) (some ⟨G, o, none⟩) xs := hR.old (below_drewN wr.heap.size wr nq)
            generalize wr.drewN nq = wz at belz hRz ⊢
            clear hc hcm bel hR CY CV
            go_wp2_with fail
            go_roundw
            case rel => exact ⟨⟨k + 1, by omega, by go_num, by rw [hstep.out, HS.out]⟩, belz, hRz⟩
            case measure => simp [intOf]; omega
          · have HS : Hid (stepW xs k oo = min oo (ahd (xs.take k) (y / 3) 4)) := Lib.hid (by unfold stepW; rw [if_neg (by unfold skipW; rw [show k - 1 = m by have := HM.out; omega, ← HY.out, ← HV.out]; have := HM.out; omega), ← HY.out])
            have hq1 : (((y / 3 : Nat) : Int) == ((v / 3 : Nat) : Int)) = false := beq_eq_false_iff_ne.2 (by omega)
            have hq2 : ((y / 3) == (v / 3)) = false := beq_eq_false_iff_ne.2 hq
            have hab : y / 3 < 1431655766 := by omega
            clear hq
            generalize y / 3 = a at CY hq1 hq2 HS hab
            generalize v / 3 = b at CV hq1 hq2
            go_wp2_with fail
            go_quiet (first | (go_at_call 17; first | exact Calls.quiet_of_same ((CY.out _).mono fun _ _ h => ⟨h.1, h.2.symm⟩) | exact Calls.quiet_of_same ((CV.out _).mono fun _ _ h => ⟨h.1, h.2.symm⟩)))
            have belz : Below w.heap.size w (wr.drewN nq) := bel.trans (below_drewN _ _ _)
            have hRz : R32 (wr.drewN nq) (some ⟨G, o, none⟩) xs := hR.old (below_drewN wr.heap.size wr nq)
            generalize wr.drewN nq = wz at belz hRz ⊢
            clear hc hcm bel hR CV hq1 hq2 hd1 hd2 hk1 hkm im
            go_wp2_with fail
            have h1 : WiRel w (some ⟨G, o, none⟩) xs k a (.int .i64 1) (.int .u32 0) wz := ⟨⟨0, by omega, rfl, rfl⟩, belz, hRz⟩
            clear belz hRz
            go_loopw [7, 6] (fun i n wq => WiRel w (some ⟨G, o, none⟩) xs k a i n wq) (fun i _ _ => 5 - (intOf i).toNat)
            case atStart => exact h1
            case round =>
              clear h1
              obtain ⟨⟨j, hj, rfl, rfl⟩, bel, hR⟩ := hrel
              by_cases hjl : j < 4
              · have ij : decide ((j : Int) + 1 ≤ 4) = true := decide_eq_true (by omega)
                have hle := ahd_le (xs.take k) a j
                have htl : (xs.take k).length ≤ 1000 := by rw [List.length_take]; omega
                have htk : (xs.take k).length = k := by rw [List.length_take]; omega
                have hm3 : j * ((xs.take k).length + 3) ≤ 3 * 1003 := Nat.mul_le_mul (by omega) (by omega)
                have CC := Lib.hid (fun w0 (h : R32 w0 (some ⟨G, o, none⟩) (xs.take k)) => counted10_any (xs.take k) (some ⟨G, o, none⟩) cap ((a : Int) - ((j : Int) + 1)) w0 h (fun z hz => HT.out z (List.mem_of_mem_take hz)) htl)
                rw [htk] at CC
                have hcl := cnt_le (xs.take k) ((a : Int) - ((j : Int) + 1))
                have HNX : Hid (ahd (xs.take k) a (j + 1) = ahd (xs.take k) a j + cnt (xs.take k) ((a : Int) - ((j : Int) + 1))) := Lib.hid (by
                  rw [show (a : Int) - ((j : Int) + 1) = (a : Int) - ((j + 1 : Nat) : Int) by omega]; rfl)
                have hsm : ahd (xs.take k) a j + cnt (xs.take k) ((a : Int) - ((j : Int) + 1)) < 4294967296 := by omega
                generalize cnt (xs.take k) ((a : Int) - ((j : Int) + 1)) = c at CC HNX hsm
                generalize ahd (xs.take k) a j = b at HNX hsm ⊢
                have HAC : Hid (((a : Int) - ((j : Int) + 1)) = IntKind.i64.wrap ((a : Int) - ((j : Int) + 1))) := Lib.hid (by rw [IntKind.wrap_i64]; omega)
                have HAW : Hid (IntKind.i64.wrap (a : Int) = (a : Int)) := Lib.hid (by rw [IntKind.wrap_i64]; omega)
                have HBC : Hid (((b : Int) + (c : Int)) % 4294967296 = ((b + c : Nat) : Int)) := Lib.hid (by omega)
                clear hle hm3 hcl htl htk
                go_wp2_with fail
                refine wp_region_held (S := fun w' => True) (by kernel_rfl) ?_
                change wpAnyH _ _ _ _ _ _ _ _ wr.drew
                have hR301 := hR.old (Below.refl wr.heap.size wr).drew
                have bel301 : Below w.heap.size w wr.drew := bel.trans ((Below.refl _ _).drew)
                clear hR bel
                generalize wr.drew = y301 at hR301 bel301 ⊢
                refine h_take 0 (.int .u32 (b : Int)) rfl 36 rfl (by kernel_rfl) (by kernel_rfl) (by kernel_rfl) (by kernel_rfl) (fun _ _ _ h => h) (fun w' _ => by kernel_rfl) trivial ?_
                simp only [Act.put, List.setIfInBounds_toArray, List.set_cons_zero, List.set_cons_succ]
                refine h_take 1 (.slice (some ⟨G, o, none⟩) xs.length cap) rfl 37 rfl (by kernel_rfl) (by kernel_rfl) (by kernel_rfl) (by kernel_rfl) (fun _ _ _ h => h) (fun w' _ => by kernel_rfl) trivial ?_
                simp only [Act.put, List.setIfInBounds_toArray, List.set_cons_zero, List.set_cons_succ]
                refine h_take 2 (.int .i64 (k : Int)) rfl 38 rfl (by kernel_rfl) (by kernel_rfl) (by kernel_rfl) (by kernel_rfl) (fun _ _ _ h => h) (fun w' _ => by kernel_rfl) trivial ?_
                simp only [Act.put, List.setIfInBounds_toArray, List.set_cons_zero, List.set_cons_succ]
                refine h_take 3 (.slice (some ⟨G, o, none⟩) k cap) rfl 39 rfl (by kernel_rfl) (by kernel_rfl) (by kernel_rfl) (by kernel_rfl) (fun _ _ _ h => h) (fun w' _ => run_op_headS 50 _ _ rfl 24 (by kernel_rfl) (by kernel_rfl) (some ⟨G, o, none⟩) xs.length cap rfl .i64 k rfl (by omega) w') trivial ?_
                simp only [Act.put, List.setIfInBounds_toArray, List.set_cons_zero, List.set_cons_succ]
                refine h_take 4 (.int .u32 (y : Int)) rfl 40 rfl (by kernel_rfl) (by kernel_rfl) (by kernel_rfl) (by kernel_rfl) (fun _ _ _ h => h) (fun w' _ => by kernel_rfl) trivial ?_
                simp only [Act.put, List.setIfInBounds_toArray, List.set_cons_zero, List.set_cons_succ]
                refine h_take 7 (.int .i64 ((j : Int) + 1)) rfl 43 rfl (by kernel_rfl) (by kernel_rfl) (by kernel_rfl) (by kernel_rfl) (fun _ _ _ h => h) (fun w' _ => by kernel_rfl) trivial ?_
                simp only [Act.put, List.setIfInBounds_toArray, List.set_cons_zero, List.set_cons_succ]
                refine h_one (i := 5) (by kernel_rfl) (o_call rfl 41 rfl (by kernel_rfl) (run_op_call 17 _ _ rfl #[.int .u32 (y : Int)] (by simp only [List.map_toArray, List.map_cons, List.map_nil]; rfl) Tryd.func17 (by kernel_rfl) (by kernel_rfl) _) (CY.out _) ?_)
                rintro e yq ⟨rfl, rfl⟩
                refine ⟨_, rfl, trivial, ?_⟩
                simp only [Act.put, List.setIfInBounds_toArray, List.set_cons_zero, List.set_cons_succ]
                refine h_take 6 (.int .i64 (a : Int)) rfl 42 rfl (by kernel_rfl) (by kernel_rfl) (by kernel_rfl) (by kernel_rfl) (fun _ _ _ h => h) (fun w' _ => run_op_conv _ _ _ rfl .u32 .i64 .u32 (by kernel_rfl) (by kernel_rfl) (a : Int) rfl (a : Int) HAW.out w') trivial ?_
                simp only [Act.put, List.setIfInBounds_toArray, List.set_cons_zero, List.set_cons_succ]
                refine h_take 8 (.int .i64 ((a : Int) - ((j : Int) + 1))) rfl 44 rfl (by kernel_rfl) (by kernel_rfl) (by kernel_rfl) (by kernel_rfl) (fun _ _ _ h => h) (fun w' _ => run_op_sub64 _ _ _ _ rfl (a : Int) ((j : Int) + 1) _ rfl rfl HAC.out.symm w') trivial ?_
                simp only [Act.put, List.setIfInBounds_toArray, List.set_cons_zero, List.set_cons_succ]
                refine h_one (i := 9) (by kernel_rfl) (o_call rfl 45 rfl (by kernel_rfl) (run_op_call 18 _ _ rfl #[.slice (some ⟨G, o, none⟩) k cap, .int .i64 ((a : Int) - ((j : Int) + 1))] (by simp only [List.map_toArray, List.map_cons, List.map_nil]; rfl) Tryd.func18 (by kernel_rfl) (by kernel_rfl) _) (CC.out _ (r32_take hR301 k)) ?_)
                rintro e yq ⟨rfl, rfl⟩
                refine ⟨_, rfl, trivial, ?_⟩
                simp only [Act.put, List.setIfInBounds_toArray, List.set_cons_zero, List.set_cons_succ]
                refine h_take 10 (.int .u32 ((b + c : Nat) : Int)) rfl 46 rfl (by kernel_rfl) (by kernel_rfl) (by kernel_rfl) (by kernel_rfl) (fun _ _ _ h => h) (fun w' _ => run_op_add32 _ _ _ _ rfl (b : Int) (c : Int) _ rfl rfl HBC.out w') trivial ?_
                simp only [Act.put, List.setIfInBounds_toArray, List.set_cons_zero, List.set_cons_succ]
                refine h_take 11 (.int .u32 ((b + c : Nat) : Int)) rfl 6 rfl (by kernel_rfl) (by kernel_rfl) (by kernel_rfl) (by kernel_rfl) (fun _ _ _ h => h) (fun w' _ => by kernel_rfl) trivial ?_
                simp only [Act.put, List.setIfInBounds_toArray, List.set_cons_zero, List.set_cons_succ]
                refine wpAnyH_done (by kernel_rfl) ?_ _
                go_wp2_with fail
                go_roundw
                case rel => exact ⟨⟨j + 1, by omega, by go_num, by rw [HNX.out]⟩, bel301, hR301⟩
                case measure => simp [intOf]; omega
              · obtain rfl : j = 4 := by omega
                have ij : decide ((((4 : Nat) : Int)) + 1 ≤ 4) = false := by decide
                obtain ⟨bn, hbn⟩ : ∃ bn, bn = ahd (xs.take k) a 4 := ⟨_, rfl⟩
                rw [← hbn] at HS
                rw [← hbn]
                clear hbn
                have HMN : Hid ((if (bn : Int) < (oo : Int) then (bn : Int) else (oo : Int)) = ((min oo bn : Nat) : Int)) := Lib.hid (num_min2 oo bn)
                generalize min oo bn = mn at HS HMN
                go_wp2_with (first
                  | ((with_reducible refine at_slot 49 ?_); (refine arm_min (o := ⟨some 49, _, _, _, _, _⟩) rfl _ _ _ rfl .u32 (oo : Int) (bn : Int) rfl rfl mn HMN.out ?_)))
                go_roundw
                case rel => exact ⟨⟨k + 1, by omega, by go_num, by rw [hstep.out, HS.out]⟩, bel, hR⟩
                case measure => simp [intOf]; omega
    · obtain rfl : k = xs.length := by omega
      go_wp2_with fail
      go_ret
      exact ⟨rfl, bel⟩
end Go.Proofs.YtmohlcmhogbkjaaDoor.Gr
