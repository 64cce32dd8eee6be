/-
  What is read of a thing; the contract of layer 4's read, over this seat's translation.
-/
import Derived.Test.YticdapgfjkhoaaaWireWrite
namespace Go.Proofs.Yticdapgfjkhoaaa.Wi
open Go.ChangeShapes Go.WideShapes Go.ChangeAt Go.RowKit Go.Proofs.Yticdapgfjkhoaaa.Mem Go.Proofs.Yticdapgfjkhoaaa.Bt Go.Proofs.Yticdapgfjkhoaaa.Tg Go.Proofs.Yticdapgfjkhoaaa.Sha
set_option linter.unusedVariables false
set_option linter.unusedSimpArgs false

/-- What is read of a thing: is it that one? and what is left. -/
def rdT (x : Thing) (s : RS) : Bool × RS :=
  if x.kind = 0 then (decide ((numR 1 s).1 = x.n % 256), (numR 1 s).2) else if x.kind = 1 then (decide ((numR 4 s).1 = x.n % 4294967296), (numR 4 s).2) else if x.kind = 2 then (decide ((numR 8 s).1 = x.n), (numR 8 s).2)
  else if x.kind = 3 then (decide ((hashR s).1 = x.h), (hashR s).2) else if x.kind = 4 then (decide ((textR 255 s).1 = x.b), (textR 255 s).2) else (true, s)
theorem eq8 (m n : Nat) : (((m : Nat) : Int) == IntKind.u8.wrap (n : Int)) = decide (m = n % 256) := by
  have h : IntKind.u8.wrap (n : Int) = ((n % 256 : Nat) : Int) := by simp [IntKind.wrap, IntKind.signed, IntKind.bits]
  rw [h]
  by_cases e : m = n % 256
  · rw [decide_eq_true e, e]; simp
  · rw [decide_eq_false e]; exact beq_eq_false_iff_ne.2 (by omega)
theorem eq32 (m n : Nat) : (((m : Nat) : Int) == IntKind.u32.wrap (n : Int)) = decide (m = n % 4294967296) := by
  have h : IntKind.u32.wrap (n : Int) = ((n % 4294967296 : Nat) : Int) := by simp [IntKind.wrap, IntKind.signed, IntKind.bits]
  rw [h]
  by_cases e : m = n % 4294967296
  · rw [decide_eq_true e, e]; simp
  · rw [decide_eq_false e]; exact beq_eq_false_iff_ne.2 (by omega)
theorem eq64 (m n : Nat) : (((m : Nat) : Int) == (n : Int)) = decide (m = n) := by
  by_cases e : m = n
  · rw [decide_eq_true e, e]; simp
  · rw [decide_eq_false e]; exact beq_eq_false_iff_ne.2 (by omega)
theorem RdAt.keep_rd {w w' : World} {R d : Nat} {s : RS} {p : Option Addr} {bs : List Nat} (h : RdAt w R d s) (ho : Only R w w') (hr : Rd w p bs) : Rd w' p bs := by
  obtain ⟨q, cap, h⟩ := h.ex
  exact Rd_only hr h.row (rcells_no _ _ _) ho
theorem textR_left (m : Int) (s : RS) : (textR m s).1.length ≤ s.1.length := by
  unfold textR
  split
  · simp
  · have h1 := takeR_left 1 s
    have h2 : (takeR (numR 1 s).1 (numR 1 s).2).1.length ≤ (numR 1 s).2.1.length := by
      unfold takeR; split
      · simp; omega
      · simp
    exact Nat.le_trans h2 h1

set_option maxHeartbeats 1000000 in
set_option maxRecDepth 100000 in
theorem read_any (x : Thing) (R d : Nat) (s : RS) (w : World) (h : RdAt w R d s) (hm : s.1.length ≤ 900000) (hx : ThingOk w x) (hxb : x.b.length ≤ 1000000) :
    Calls Try.prog 27 #[.pointer (some ⟨R, 0, none⟩), .agg (tcells x).toArray] w (RdPost w R d (.bool (rdT x s).1) (rdT x s).2) := by
  have HX := Lib.hid hx
  have H34 := Lib.hid (tcells34 hx.h_)
  have H := Lib.hid h
  have hRl := h.row_lt
  have hdl := h.dlt
  clear h hx
  obtain ⟨tc, htc⟩ : ∃ tc, tc = tcells x := ⟨_, rfl⟩
  have HTC := Lib.hid htc
  rw [← htc] at H34
  rw [← htc]
  clear htc
  have H0 : Hid (tc[0]? = some (.int .i64 x.kind)) := Lib.hid (by rw [HTC.out]; rfl)
  have H1 : Hid (tc[1]? = some (.int .u64 (x.n : Int))) := Lib.hid (by rw [HTC.out]; rfl)
  by_cases k0 : x.kind = 0
  · have HE : Hid (rdT x s = (decide ((numR 1 s).1 = x.n % 256), (numR 1 s).2)) := Lib.hid (by unfold rdT; rw [if_pos k0])
    rw [k0] at H0
    rw [HE.out]
    clear HE k0
    go_enter Try.func27, Try.ntmps27
    go_wp2_with (first
      | ((with_reducible refine at_slot 3 ?_); (refine arm_box (o := ⟨some 3, _, _, _, _, _⟩) rfl _ _ rfl tc rfl ?_); intro X w1 hXe hR1 hN1; have c0 := hR1.cell H0.out))
    have eX := hXe.out
    have belz : Below w.heap.size w w1.drew := hN1.below.trans ((Below.refl _ _).drew)
    have hXz : Row w1.drew X 33 tc := hR1
    have HA := Lib.hid (H.out.old belz)
    have HXR : Hid (X ≠ R ∧ d ≠ X ∧ w.heap.size ≤ X) := Lib.hid ⟨by omega, by omega, by omega⟩
    clear eX hXe hR1 hN1 c0 hRl hdl
    refine wp_region_held (S := fun w' => Row w' X 33 tc) (by kernel_rfl) ?_
    change wpAnyH _ _ _ _ _ _ _ _ w1.drew
    generalize w1.drew = wz at belz hXz HA ⊢
    refine h_take 0 (.pointer (some ⟨R, 0, none⟩)) rfl 9 rfl (by kernel_rfl) (by kernel_rfl) (by kernel_rfl) (by kernel_rfl) (fun _ _ _ h => h) (fun w' _ => by kernel_rfl) hXz ?_
    simp only [Act.put, List.setIfInBounds_toArray, List.set_cons_zero, List.set_cons_succ]
    refine h_take 2 (.pointer (some ⟨X, 1, none⟩)) rfl 11 rfl (by kernel_rfl) (by kernel_rfl) (by kernel_rfl) (by kernel_rfl) (fun _ _ _ h => h) (fun w' _ => by kernel_rfl) hXz ?_
    simp only [Act.put, List.setIfInBounds_toArray, List.set_cons_zero, List.set_cons_succ]
    refine h_take 3 (.int .u64 (x.n : Int)) rfl 12 rfl (by kernel_rfl) (by kernel_rfl) (by kernel_rfl) (by kernel_rfl) (fun _ _ _ h => h) (fun w' hC => run_op_load1 _ _ rfl (.int .u64) (by kernel_rfl) rfl _ rfl _ (hC.cell H1.out)) hXz ?_
    simp only [Act.put, List.setIfInBounds_toArray, List.set_cons_zero, List.set_cons_succ]
    refine h_take 4 (.int .u8 (IntKind.u8.wrap (x.n : Int))) rfl 13 rfl (by kernel_rfl) (by kernel_rfl) (by kernel_rfl) (by kernel_rfl) (fun _ _ _ h => h) (fun w' _ => by kernel_rfl) hXz ?_
    simp only [Act.put, List.setIfInBounds_toArray, List.set_cons_zero, List.set_cons_succ]
    refine h_one (i := 1) (by kernel_rfl) (o_call rfl 10 rfl (by kernel_rfl) (run_op_call 15 _ _ rfl #[.pointer (some ⟨R, 0, none⟩)] (by simp only [List.map_toArray, List.map_cons, List.map_nil]; rfl) Try.func15 (by kernel_rfl) (by kernel_rfl) wz) (rByte_any R d s wz HA.out (by omega)) ?_)
    rintro e y1 ⟨rfl, hA1, hO1⟩
    have hX1 := hXz.only hO1 HXR.out.1
    refine ⟨_, rfl, hX1, ?_⟩
    simp only [Act.put, List.setIfInBounds_toArray, List.set_cons_zero, List.set_cons_succ]
    generalize hmm : (numR 1 s).1 = m
    have HM := Lib.hid hmm; clear hmm
    refine h_take 5 (.bool ((m : Int) == IntKind.u8.wrap (x.n : Int))) rfl 14 rfl (by kernel_rfl) (by kernel_rfl) (by kernel_rfl) (by kernel_rfl) (fun _ _ _ h => h) (fun w' _ => by kernel_rfl) hX1 ?_
    simp only [Act.put, List.setIfInBounds_toArray, List.set_cons_zero, List.set_cons_succ]
    refine h_take 6 (.bool ((m : Int) == IntKind.u8.wrap (x.n : Int))) rfl 4 rfl (by kernel_rfl) (by kernel_rfl) (by kernel_rfl) (by kernel_rfl) (fun _ _ _ h => h) (fun w' _ => by kernel_rfl) hX1 ?_
    simp only [Act.put, List.setIfInBounds_toArray, List.set_cons_zero, List.set_cons_succ]
    refine wpAnyH_done (by kernel_rfl) ?_ _
    clear hXz hX1
    go_wp2_with fail
    go_ret
    exact ⟨by rw [HM.out, ← eq8]; rfl, hA1, (Only.of_below R belz).trans hO1⟩
  by_cases k1 : x.kind = 1
  · have HE : Hid (rdT x s = (decide ((numR 4 s).1 = x.n % 4294967296), (numR 4 s).2)) := Lib.hid (by unfold rdT; rw [if_neg k0, if_pos k1])
    rw [k1] at H0
    rw [HE.out]
    clear HE k0 k1
    go_enter Try.func27, Try.ntmps27
    go_wp2_with (first
      | ((with_reducible refine at_slot 3 ?_); (refine arm_box (o := ⟨some 3, _, _, _, _, _⟩) rfl _ _ rfl tc rfl ?_); intro X w1 hXe hR1 hN1; have c0 := hR1.cell H0.out))
    have eX := hXe.out
    have belz : Below w.heap.size w w1.drew := hN1.below.trans ((Below.refl _ _).drew)
    have hXz : Row w1.drew X 33 tc := hR1
    have HA := Lib.hid (H.out.old belz)
    have HXR : Hid (X ≠ R ∧ d ≠ X ∧ w.heap.size ≤ X) := Lib.hid ⟨by omega, by omega, by omega⟩
    clear eX hXe hR1 hN1 c0 hRl hdl
    refine wp_region_held (S := fun w' => Row w' X 33 tc) (by kernel_rfl) ?_
    change wpAnyH _ _ _ _ _ _ _ _ w1.drew
    generalize w1.drew = wz at belz hXz HA ⊢
    refine h_take 0 (.pointer (some ⟨R, 0, none⟩)) rfl 17 rfl (by kernel_rfl) (by kernel_rfl) (by kernel_rfl) (by kernel_rfl) (fun _ _ _ h => h) (fun w' _ => by kernel_rfl) hXz ?_
    simp only [Act.put, List.setIfInBounds_toArray, List.set_cons_zero, List.set_cons_succ]
    refine h_take 2 (.pointer (some ⟨X, 1, none⟩)) rfl 19 rfl (by kernel_rfl) (by kernel_rfl) (by kernel_rfl) (by kernel_rfl) (fun _ _ _ h => h) (fun w' _ => by kernel_rfl) hXz ?_
    simp only [Act.put, List.setIfInBounds_toArray, List.set_cons_zero, List.set_cons_succ]
    refine h_take 3 (.int .u64 (x.n : Int)) rfl 20 rfl (by kernel_rfl) (by kernel_rfl) (by kernel_rfl) (by kernel_rfl) (fun _ _ _ h => h) (fun w' hC => run_op_load1 _ _ rfl (.int .u64) (by kernel_rfl) rfl _ rfl _ (hC.cell H1.out)) hXz ?_
    simp only [Act.put, List.setIfInBounds_toArray, List.set_cons_zero, List.set_cons_succ]
    refine h_take 4 (.int .u32 (IntKind.u32.wrap (x.n : Int))) rfl 21 rfl (by kernel_rfl) (by kernel_rfl) (by kernel_rfl) (by kernel_rfl) (fun _ _ _ h => h) (fun w' _ => by kernel_rfl) hXz ?_
    simp only [Act.put, List.setIfInBounds_toArray, List.set_cons_zero, List.set_cons_succ]
    refine h_one (i := 1) (by kernel_rfl) (o_call rfl 18 rfl (by kernel_rfl) (run_op_call 17 _ _ rfl #[.pointer (some ⟨R, 0, none⟩)] (by simp only [List.map_toArray, List.map_cons, List.map_nil]; rfl) Try.func17 (by kernel_rfl) (by kernel_rfl) wz) (rNum_any R d s wz HA.out (by omega)) ?_)
    rintro e y1 ⟨rfl, hA1, hO1⟩
    have hX1 := hXz.only hO1 HXR.out.1
    refine ⟨_, rfl, hX1, ?_⟩
    simp only [Act.put, List.setIfInBounds_toArray, List.set_cons_zero, List.set_cons_succ]
    generalize hmm : (numR 4 s).1 = m
    have HM := Lib.hid hmm; clear hmm
    refine h_take 5 (.bool ((m : Int) == IntKind.u32.wrap (x.n : Int))) rfl 22 rfl (by kernel_rfl) (by kernel_rfl) (by kernel_rfl) (by kernel_rfl) (fun _ _ _ h => h) (fun w' _ => by kernel_rfl) hX1 ?_
    simp only [Act.put, List.setIfInBounds_toArray, List.set_cons_zero, List.set_cons_succ]
    refine h_take 6 (.bool ((m : Int) == IntKind.u32.wrap (x.n : Int))) rfl 4 rfl (by kernel_rfl) (by kernel_rfl) (by kernel_rfl) (by kernel_rfl) (fun _ _ _ h => h) (fun w' _ => by kernel_rfl) hX1 ?_
    simp only [Act.put, List.setIfInBounds_toArray, List.set_cons_zero, List.set_cons_succ]
    refine wpAnyH_done (by kernel_rfl) ?_ _
    clear hXz hX1
    go_wp2_with fail
    go_ret
    exact ⟨by rw [HM.out, ← eq32]; rfl, hA1, (Only.of_below R belz).trans hO1⟩
  by_cases k2 : x.kind = 2
  · have HE : Hid (rdT x s = (decide ((numR 8 s).1 = x.n), (numR 8 s).2)) := Lib.hid (by unfold rdT; rw [if_neg k0, if_neg k1, if_pos k2])
    rw [k2] at H0
    rw [HE.out]
    clear HE k0 k1 k2
    go_enter Try.func27, Try.ntmps27
    go_wp2_with (first
      | ((with_reducible refine at_slot 3 ?_); (refine arm_box (o := ⟨some 3, _, _, _, _, _⟩) rfl _ _ rfl tc rfl ?_); intro X w1 hXe hR1 hN1; have c0 := hR1.cell H0.out))
    have eX := hXe.out
    have belz : Below w.heap.size w w1.drew := hN1.below.trans ((Below.refl _ _).drew)
    have hXz : Row w1.drew X 33 tc := hR1
    have HA := Lib.hid (H.out.old belz)
    have HXR : Hid (X ≠ R ∧ d ≠ X ∧ w.heap.size ≤ X) := Lib.hid ⟨by omega, by omega, by omega⟩
    clear eX hXe hR1 hN1 c0 hRl hdl
    refine wp_region_held (S := fun w' => Row w' X 33 tc) (by kernel_rfl) ?_
    change wpAnyH _ _ _ _ _ _ _ _ w1.drew
    generalize w1.drew = wz at belz hXz HA ⊢
    refine h_take 0 (.pointer (some ⟨R, 0, none⟩)) rfl 25 rfl (by kernel_rfl) (by kernel_rfl) (by kernel_rfl) (by kernel_rfl) (fun _ _ _ h => h) (fun w' _ => by kernel_rfl) hXz ?_
    simp only [Act.put, List.setIfInBounds_toArray, List.set_cons_zero, List.set_cons_succ]
    refine h_take 2 (.pointer (some ⟨X, 1, none⟩)) rfl 27 rfl (by kernel_rfl) (by kernel_rfl) (by kernel_rfl) (by kernel_rfl) (fun _ _ _ h => h) (fun w' _ => by kernel_rfl) hXz ?_
    simp only [Act.put, List.setIfInBounds_toArray, List.set_cons_zero, List.set_cons_succ]
    refine h_take 3 (.int .u64 (x.n : Int)) rfl 28 rfl (by kernel_rfl) (by kernel_rfl) (by kernel_rfl) (by kernel_rfl) (fun _ _ _ h => h) (fun w' hC => run_op_load1 _ _ rfl (.int .u64) (by kernel_rfl) rfl _ rfl _ (hC.cell H1.out)) hXz ?_
    simp only [Act.put, List.setIfInBounds_toArray, List.set_cons_zero, List.set_cons_succ]
    refine h_one (i := 1) (by kernel_rfl) (o_call rfl 26 rfl (by kernel_rfl) (run_op_call 18 _ _ rfl #[.pointer (some ⟨R, 0, none⟩)] (by simp only [List.map_toArray, List.map_cons, List.map_nil]; rfl) Try.func18 (by kernel_rfl) (by kernel_rfl) wz) (rLong_any R d s wz HA.out (by omega)) ?_)
    rintro e y1 ⟨rfl, hA1, hO1⟩
    have hX1 := hXz.only hO1 HXR.out.1
    refine ⟨_, rfl, hX1, ?_⟩
    simp only [Act.put, List.setIfInBounds_toArray, List.set_cons_zero, List.set_cons_succ]
    generalize hmm : (numR 8 s).1 = m
    have HM := Lib.hid hmm; clear hmm
    refine h_take 4 (.bool ((m : Int) == (x.n : Int))) rfl 29 rfl (by kernel_rfl) (by kernel_rfl) (by kernel_rfl) (by kernel_rfl) (fun _ _ _ h => h) (fun w' _ => by kernel_rfl) hX1 ?_
    simp only [Act.put, List.setIfInBounds_toArray, List.set_cons_zero, List.set_cons_succ]
    refine h_take 5 (.bool ((m : Int) == (x.n : Int))) rfl 4 rfl (by kernel_rfl) (by kernel_rfl) (by kernel_rfl) (by kernel_rfl) (fun _ _ _ h => h) (fun w' _ => by kernel_rfl) hX1 ?_
    simp only [Act.put, List.setIfInBounds_toArray, List.set_cons_zero, List.set_cons_succ]
    refine wpAnyH_done (by kernel_rfl) ?_ _
    clear hXz hX1
    go_wp2_with fail
    go_ret
    exact ⟨by rw [HM.out, ← eq64]; rfl, hA1, (Only.of_below R belz).trans hO1⟩
  by_cases k3 : x.kind = 3
  · have HE : Hid (rdT x s = (decide ((hashR s).1 = x.h), (hashR s).2)) := Lib.hid (by unfold rdT; rw [if_neg k0, if_neg k1, if_neg k2, if_pos k3])
    rw [k3] at H0
    rw [HE.out]
    clear HE k0 k1 k2 k3
    go_enter Try.func27, Try.ntmps27
    go_wp2_with (first
      | ((with_reducible refine at_slot 3 ?_); (refine arm_box (o := ⟨some 3, _, _, _, _, _⟩) rfl _ _ rfl tc rfl ?_); intro X w1 hXe hR1 hN1; have c0 := hR1.cell H0.out))
    have eX := hXe.out
    have belz : Below w.heap.size w w1.drew := hN1.below.trans ((Below.refl _ _).drew)
    have hXz : Row w1.drew X 33 tc := hR1
    have HA := Lib.hid (H.out.old belz)
    have HXR : Hid (X ≠ R ∧ d ≠ X ∧ w.heap.size ≤ X) := Lib.hid ⟨by omega, by omega, by omega⟩
    clear eX hXe hR1 hN1 c0 hRl hdl
    refine wp_region_held (S := fun w' => Row w' X 33 tc) (by kernel_rfl) ?_
    change wpAnyH _ _ _ _ _ _ _ _ w1.drew
    generalize w1.drew = wz at belz hXz HA ⊢
    refine h_take 0 (.pointer (some ⟨R, 0, none⟩)) rfl 32 rfl (by kernel_rfl) (by kernel_rfl) (by kernel_rfl) (by kernel_rfl) (fun _ _ _ h => h) (fun w' _ => by kernel_rfl) hXz ?_
    simp only [Act.put, List.setIfInBounds_toArray, List.set_cons_zero, List.set_cons_succ]
    refine h_take 2 (.pointer (some ⟨X, 2, none⟩)) rfl 34 rfl (by kernel_rfl) (by kernel_rfl) (by kernel_rfl) (by kernel_rfl) (fun _ _ _ h => h) (fun w' _ => by kernel_rfl) hXz ?_
    simp only [Act.put, List.setIfInBounds_toArray, List.set_cons_zero, List.set_cons_succ]
    refine h_take 3 (.agg (u8s x.h).toArray) rfl 35 rfl (by kernel_rfl) (by kernel_rfl) (by kernel_rfl) (by kernel_rfl) (fun _ _ _ h => h) (fun w' hC => run_op_load _ _ rfl X 2 rfl (u8s x.h) (tcells_hash (hC.congr HTC.out)) (by rw [u8s_length, HX.out.h_]; exact sz_hash)) hXz ?_
    simp only [Act.put, List.setIfInBounds_toArray, List.set_cons_zero, List.set_cons_succ]
    refine h_one (i := 1) (by kernel_rfl) (o_call rfl 33 rfl (by kernel_rfl) (run_op_call 19 _ _ rfl #[.pointer (some ⟨R, 0, none⟩)] (by simp only [List.map_toArray, List.map_cons, List.map_nil]; rfl) Try.func19 (by kernel_rfl) (by kernel_rfl) wz) (rHash_any R d s wz HA.out (by omega)) ?_)
    rintro e y1 ⟨rfl, hA1, hO1⟩
    have hX1 := hXz.only hO1 HXR.out.1
    refine ⟨_, rfl, hX1, ?_⟩
    simp only [Act.put, List.setIfInBounds_toArray, List.set_cons_zero, List.set_cons_succ]
    have HHL := Lib.hid (hashR_len s)
    refine h_take 4 (.bool (decide ((hashR s).1 = x.h))) rfl 36 rfl (by kernel_rfl) (by kernel_rfl) (by kernel_rfl) (by kernel_rfl) (fun _ _ _ h => h) (fun w' _ => run_op_eql2 _ _ _ rfl (hashR s).1 x.h HHL.out HX.out.h_ rfl rfl w') hX1 ?_
    simp only [Act.put, List.setIfInBounds_toArray, List.set_cons_zero, List.set_cons_succ]
    refine h_take 5 (.bool (decide ((hashR s).1 = x.h))) rfl 4 rfl (by kernel_rfl) (by kernel_rfl) (by kernel_rfl) (by kernel_rfl) (fun _ _ _ h => h) (fun w' _ => by kernel_rfl) hX1 ?_
    simp only [Act.put, List.setIfInBounds_toArray, List.set_cons_zero, List.set_cons_succ]
    refine wpAnyH_done (by kernel_rfl) ?_ _
    clear hXz hX1
    go_wp2_with fail
    go_ret
    exact ⟨rfl, hA1, (Only.of_below R belz).trans hO1⟩
  by_cases k4 : x.kind = 4
  · have HE : Hid (rdT x s = (decide ((textR 255 s).1 = x.b), (textR 255 s).2)) := Lib.hid (by unfold rdT; rw [if_neg k0, if_neg k1, if_neg k2, if_neg k3, if_pos k4])
    rw [k4] at H0
    rw [HE.out]
    clear HE k0 k1 k2 k3 k4
    go_enter Try.func27, Try.ntmps27
    go_wp2_with (first
      | ((with_reducible refine at_slot 3 ?_); (refine arm_box (o := ⟨some 3, _, _, _, _, _⟩) rfl _ _ rfl tc rfl ?_); intro X w1 hXe hR1 hN1; have c0 := hR1.cell H0.out))
    have eX := hXe.out
    have belz : Below w.heap.size w w1.drew := hN1.below.trans ((Below.refl _ _).drew)
    have hXz : Row w1.drew X 33 tc := hR1
    have HA := Lib.hid (H.out.old belz)
    have HXR : Hid (X ≠ R ∧ d ≠ X ∧ w.heap.size ≤ X) := Lib.hid ⟨by omega, by omega, by omega⟩
    clear eX hXe hR1 hN1 c0 hRl hdl
    refine wp_region_held (S := fun w' => Row w' X 33 tc) (by kernel_rfl) ?_
    change wpAnyH _ _ _ _ _ _ _ _ w1.drew
    generalize w1.drew = wz at belz hXz HA ⊢
    refine h_take 0 (.pointer (some ⟨R, 0, none⟩)) rfl 39 rfl (by kernel_rfl) (by kernel_rfl) (by kernel_rfl) (by kernel_rfl) (fun _ _ _ h => h) (fun w' _ => by kernel_rfl) hXz ?_
    simp only [Act.put, List.setIfInBounds_toArray, List.set_cons_zero, List.set_cons_succ]
    refine h_take 2 (.pointer (some ⟨X, 34, none⟩)) rfl 41 rfl (by kernel_rfl) (by kernel_rfl) (by kernel_rfl) (by kernel_rfl) (fun _ _ _ h => h) (fun w' _ => by kernel_rfl) hXz ?_
    simp only [Act.put, List.setIfInBounds_toArray, List.set_cons_zero, List.set_cons_succ]
    refine h_take 3 (.slice x.bp x.b.length x.bc) rfl 42 rfl (by kernel_rfl) (by kernel_rfl) (by kernel_rfl) (by kernel_rfl) (fun _ _ _ h => h) (fun w' hC => run_op_load1 _ _ rfl (.slice 5) (by kernel_rfl) rfl _ rfl _ (hC.cell H34.out)) hXz ?_
    simp only [Act.put, List.setIfInBounds_toArray, List.set_cons_zero, List.set_cons_succ]
    refine h_one (i := 1) (by kernel_rfl) (o_call rfl 40 rfl (by kernel_rfl) (run_op_call 21 _ _ rfl #[.pointer (some ⟨R, 0, none⟩), .int .i64 255] (by simp only [List.map_toArray, List.map_cons, List.map_nil]; rfl) Try.func21 (by kernel_rfl) (by kernel_rfl) wz) (rText_any 255 R d s wz HA.out (by omega)) ?_)
    rintro e y1 ⟨⟨q, c, rfl, hrd⟩, hA1, hO1⟩
    have hX1 := hXz.only hO1 HXR.out.1
    have hrx := HA.out.keep_rd hO1 (HX.out.came.below belz).rd
    refine ⟨_, rfl, hX1, ?_⟩
    simp only [Act.put, List.setIfInBounds_toArray, List.set_cons_zero, List.set_cons_succ]
    have htl := textR_left 255 s
    refine h_one (i := 4) (by kernel_rfl) (o_call rfl 43 rfl (by kernel_rfl) (run_op_call 12 _ _ rfl #[.slice q (textR 255 s).1.length c, .slice x.bp x.b.length x.bc] (by simp only [List.map_toArray, List.map_cons, List.map_nil]; rfl) Try.func12 (by kernel_rfl) (by kernel_rfl) y1) (same_any _ _ q x.bp c x.bc y1 hrd hrx (by omega) hxb) ?_)
    rintro e y2 ⟨rfl, hB2⟩
    have hX2 := hX1.old hB2
    refine ⟨_, rfl, hX2, ?_⟩
    simp only [Act.put, List.setIfInBounds_toArray, List.set_cons_zero, List.set_cons_succ]
    refine h_take 5 (.bool (decide ((textR 255 s).1 = x.b))) rfl 4 rfl (by kernel_rfl) (by kernel_rfl) (by kernel_rfl) (by kernel_rfl) (fun _ _ _ h => h) (fun w' _ => by kernel_rfl) hX2 ?_
    simp only [Act.put, List.setIfInBounds_toArray, List.set_cons_zero, List.set_cons_succ]
    refine wpAnyH_done (by kernel_rfl) ?_ _
    clear hXz hX1
    go_wp2_with fail
    go_ret
    exact ⟨rfl, hA1.old hB2, ((Only.of_below R belz).trans hO1).trans (Only.of_below R hB2)⟩
  · have HE : Hid (rdT x s = (true, s)) := Lib.hid (by unfold rdT; rw [if_neg k0, if_neg k1, if_neg k2, if_neg k3, if_neg k4])
    rw [HE.out]
    have e0 : (x.kind == 0) = false := beq_eq_false_iff_ne.2 k0
    have e1 : (x.kind == 1) = false := beq_eq_false_iff_ne.2 k1
    have e2 : (x.kind == 2) = false := beq_eq_false_iff_ne.2 k2
    have e3 : (x.kind == 3) = false := beq_eq_false_iff_ne.2 k3
    have e4 : (x.kind == 4) = false := beq_eq_false_iff_ne.2 k4
    clear k0 k1 k2 k3 k4 HE
    go_enter Try.func27, Try.ntmps27
    go_wp2_with (first
      | ((with_reducible refine at_slot 3 ?_); (refine arm_box (o := ⟨some 3, _, _, _, _, _⟩) rfl _ _ rfl tc rfl ?_); intro X w1 hXe hR1 hN1; have c0 := hR1.cell H0.out))
    go_ret
    exact ⟨rfl, H.out.old hN1.below, Only.of_below R hN1.below⟩
end Go.Proofs.Yticdapgfjkhoaaa.Wi
