/-
  The contracts of package state's fits, Right and Genesis, over this seat's translation.
-/
import Derived.Test.YtghogoijjaiccaaStaMem
import Derived.Test.YtghogoijjaiccaaMemAll
import Derived.Test.YtghogoijjaiccaaCmp
import Derived.Test.YtghogoijjaiccaaWinAll
import Derived.Test.YtghogoijjaiccaaRingAll
import Derived.Test.YtghogoijjaiccaaEpoAll
namespace Go.Proofs.Ytghogoijjaiccaa.Sa
open Go.ChangeShapes Go.WideShapes Go.ChangeAt Go.RowKit Go.Proofs.Ytghogoijjaiccaa.Mem Go.Proofs.Ytghogoijjaiccaa.Bt
open Go.Proofs.Ytghogoijjaiccaa.Ep (H32 Dat zh zh_ok num32 dcs dcs_len dcs_one zd zd_ok Has h_len one_app one_num szH)
set_option linter.unusedVariables false
set_option linter.unusedSimpArgs false

/-- May there be so many blocks, one at least, up to a slot, or a place? -/
def Fits (a b : Nat) : Prop := 1 ≤ a ∧ a ≤ b + 1
instance (a b : Nat) : Decidable (Fits a b) := by unfold Fits; infer_instance
/-- May a state be? -/
def SRt (s : Sta) : Prop := Wn.WRt s.min s.last s.counts ∧ s.last = s.slot / 3 ∧ Fits s.len s.slot ∧ s.count ≤ s.slot / 24 ∧ s.count < s.len ∧ Fits s.next.len (s.slot % 24) ∧ s.next.len ≤ s.len
instance (s : Sta) : Decidable (SRt s) := by unfold SRt; infer_instance
set_option maxRecDepth 100000 in
theorem fits_any (a b : Nat) (w : World) (ha : a < 4294967296) (hb : b < 4294967296) :
    Calls Try.prog 59 #[.int .u32 (a : Int), .int .u32 (b : Int)] w fun e w' => e = .returned (.bool (decide (Fits a b))) ∧ w = w' := by
  obtain ⟨v, hv⟩ : ∃ v : Bool, v = decide (Fits a b) := ⟨_, rfl⟩
  rw [← hv]
  by_cases h : 1 ≤ a
  · have h1 : decide ((1 : Int) ≤ (a : Int)) = true := decide_eq_true (by omega)
    have h2 : decide ((a : Int) - 1 ≤ (b : Int)) = v := by rw [hv]; exact decide_eq_decide.2 ⟨fun k => ⟨h, by omega⟩, fun k => by have := k.2; omega⟩
    have h3 : IntKind.u32.wrap ((a : Int) - 1) = (a : Int) - 1 := by rw [IntKind.wrap_u32]; omega
    clear hv
    go_enter Try.func59, Try.ntmps59
    go_wp2_with fail
    go_ret
    exact ⟨by simp [*], rfl⟩
  · have h1 : decide ((1 : Int) ≤ (a : Int)) = false := decide_eq_false (by omega)
    obtain rfl : v = false := by rw [hv]; exact decide_eq_false (fun k => h k.1)
    clear hv
    go_enter Try.func59, Try.ntmps59
    go_wp2_with fail
    go_ret
    exact ⟨rfl, rfl⟩
section
variable {s : Sta}
theorem sc_slot (k : s.Ok) : (scs s)[96]? = some (num32 s.slot) := (s_num k (i := 3) (by omega) rfl).get
theorem sc_len (k : s.Ok) : (scs s)[97]? = some (num32 s.len) := (s_num k (i := 4) (by omega) rfl).get
theorem sc_count (k : s.Ok) : (scs s)[98]? = some (num32 s.count) := (s_num k (i := 5) (by omega) rfl).get
theorem sc_min (k : s.Ok) : (scs s)[99]? = some (num32 s.min) := (s_num k (i := 6) (by omega) rfl).get
theorem sc_last (k : s.Ok) : (scs s)[100]? = some (num32 s.last) := (s_num k (i := 7) (by omega) rfl).get
theorem sc_next (k : s.Ok) : (scs s)[362]? = some (num32 s.next.len) := (s_num k (i := 21) (by omega) rfl).get
end
set_option maxHeartbeats 8000000 in
set_option maxRecDepth 100000 in
theorem right_no1 (s : Sta) (w : World) (ok : s.Ok) (c1 : ¬ (Wn.WRt s.min s.last s.counts)) : Calls Try.prog 33 #[.agg (scs s).toArray] w fun e w' => e = .returned (.bool false) ∧ Below w.heap.size w w' := by
  have OK := Lib.hid ok
  have C1 : Hid (∀ w0, Calls Try.prog 57 #[.agg (Wn.wcs s.min s.last s.counts).toArray] w0 fun e w' => e = .returned (.bool false) ∧ Below w0.heap.size w0 w') := Lib.hid (fun w0 => decide_eq_false c1 ▸ Wn.wright_any s.min s.last s.counts w0 ok.min ok.last ok.clt ok.counts)
  clear ok c1
  go_enter Try.func33, Try.ntmps33
  go_wp2_with (first
    | ((with_reducible refine at_slot 1 ?_); (refine arm_box (o := ⟨some 1, _, _, _, _, _⟩) rfl _ _ rfl (scs s) rfl ?_); intro S w1 Se hw1 nw1; have c362 := hw1.cell (sc_next OK.out)))
  have HR := Lib.hid hw1
  have bel1 := nw1.below
  clear hw1 c362 Se nw1
  refine wp_region_quiet (C := fun w' => Below w1.heap.size w1 w') (by kernel_rfl) (by kernel_rfl) ((Below.refl _ _).drew) ?_
  rw [List.toList_toArray]
  refine q_value 8 rfl (.pointer (some ⟨S, 99, none⟩)) (by kernel_rfl) (fun w' _ => by kernel_rfl) ?_
  simp only [Act.put, List.setIfInBounds_toArray, List.set_cons_zero, List.set_cons_succ]
  refine q_value 9 rfl (.agg (Wn.wcs s.min s.last s.counts).toArray) (by kernel_rfl) (fun w' hC => run_op_load _ _ rfl S 99 rfl _ ((s_win OK.out).range (HR.out.old hC)) (Wn.sz_win OK.out.counts)) ?_
  simp only [Act.put, List.setIfInBounds_toArray, List.set_cons_zero, List.set_cons_succ]
  refine q_call 10 rfl (.bool false) 57 #[.agg (Wn.wcs s.min s.last s.counts).toArray] (by kernel_rfl) (fun w' _ => run_op_call _ _ _ rfl _ (by simp only [List.map_toArray, List.map_cons, List.map_nil]; rfl) Try.func57 (by kernel_rfl) (by kernel_rfl) w') (fun w' hC => (C1.out w').mono fun e w'' h => ⟨h.1, below_step hC hC.size h.2⟩) ?_
  simp only [Act.put, List.setIfInBounds_toArray, List.set_cons_zero, List.set_cons_succ]
  refine q_value 11 rfl (.bool false) (by kernel_rfl) (fun w' _ => by kernel_rfl) ?_
  simp only [Act.put, List.setIfInBounds_toArray, List.set_cons_zero, List.set_cons_succ]
  refine BigFrame.wpQuiet_skip (by kernel_rfl) ?_
  simp only [Act.put, List.setIfInBounds_toArray, List.set_cons_zero, List.set_cons_succ]
  refine BigFrame.wpQuiet_skip (by kernel_rfl) ?_
  simp only [Act.put, List.setIfInBounds_toArray, List.set_cons_zero, List.set_cons_succ]
  refine BigFrame.wpQuiet_skip (by kernel_rfl) ?_
  simp only [Act.put, List.setIfInBounds_toArray, List.set_cons_zero, List.set_cons_succ]
  refine BigFrame.wpQuiet_skip (by kernel_rfl) ?_
  simp only [Act.put, List.setIfInBounds_toArray, List.set_cons_zero, List.set_cons_succ]
  refine BigFrame.wpQuiet_skip (by kernel_rfl) ?_
  simp only [Act.put, List.setIfInBounds_toArray, List.set_cons_zero, List.set_cons_succ]
  refine BigFrame.wpQuiet_skip (by kernel_rfl) ?_
  simp only [Act.put, List.setIfInBounds_toArray, List.set_cons_zero, List.set_cons_succ]
  refine BigFrame.wpQuiet_skip (by kernel_rfl) ?_
  simp only [Act.put, List.setIfInBounds_toArray, List.set_cons_zero, List.set_cons_succ]
  refine BigFrame.wpQuiet_skip (by kernel_rfl) ?_
  simp only [Act.put, List.setIfInBounds_toArray, List.set_cons_zero, List.set_cons_succ]
  refine q_value 20 rfl (.bool false) (by kernel_rfl) (fun w' _ => by kernel_rfl) ?_
  simp only [Act.put, List.setIfInBounds_toArray, List.set_cons_zero, List.set_cons_succ]
  refine q_value 21 rfl (.bool false) (by kernel_rfl) (fun w' _ => by kernel_rfl) ?_
  simp only [Act.put, List.setIfInBounds_toArray, List.set_cons_zero, List.set_cons_succ]
  refine BigFrame.wpQuiet_skip (by kernel_rfl) ?_
  simp only [Act.put, List.setIfInBounds_toArray, List.set_cons_zero, List.set_cons_succ]
  refine BigFrame.wpQuiet_skip (by kernel_rfl) ?_
  simp only [Act.put, List.setIfInBounds_toArray, List.set_cons_zero, List.set_cons_succ]
  refine BigFrame.wpQuiet_skip (by kernel_rfl) ?_
  simp only [Act.put, List.setIfInBounds_toArray, List.set_cons_zero, List.set_cons_succ]
  refine BigFrame.wpQuiet_skip (by kernel_rfl) ?_
  simp only [Act.put, List.setIfInBounds_toArray, List.set_cons_zero, List.set_cons_succ]
  refine BigFrame.wpQuiet_skip (by kernel_rfl) ?_
  simp only [Act.put, List.setIfInBounds_toArray, List.set_cons_zero, List.set_cons_succ]
  refine q_value 27 rfl (.bool false) (by kernel_rfl) (fun w' _ => by kernel_rfl) ?_
  simp only [Act.put, List.setIfInBounds_toArray, List.set_cons_zero, List.set_cons_succ]
  refine q_value 28 rfl (.bool false) (by kernel_rfl) (fun w' _ => by kernel_rfl) ?_
  simp only [Act.put, List.setIfInBounds_toArray, List.set_cons_zero, List.set_cons_succ]
  refine BigFrame.wpQuiet_skip (by kernel_rfl) ?_
  simp only [Act.put, List.setIfInBounds_toArray, List.set_cons_zero, List.set_cons_succ]
  refine BigFrame.wpQuiet_skip (by kernel_rfl) ?_
  simp only [Act.put, List.setIfInBounds_toArray, List.set_cons_zero, List.set_cons_succ]
  refine BigFrame.wpQuiet_skip (by kernel_rfl) ?_
  simp only [Act.put, List.setIfInBounds_toArray, List.set_cons_zero, List.set_cons_succ]
  refine BigFrame.wpQuiet_skip (by kernel_rfl) ?_
  simp only [Act.put, List.setIfInBounds_toArray, List.set_cons_zero, List.set_cons_succ]
  refine BigFrame.wpQuiet_skip (by kernel_rfl) ?_
  simp only [Act.put, List.setIfInBounds_toArray, List.set_cons_zero, List.set_cons_succ]
  refine BigFrame.wpQuiet_skip (by kernel_rfl) ?_
  simp only [Act.put, List.setIfInBounds_toArray, List.set_cons_zero, List.set_cons_succ]
  refine q_value 35 rfl (.bool false) (by kernel_rfl) (fun w' _ => by kernel_rfl) ?_
  simp only [Act.put, List.setIfInBounds_toArray, List.set_cons_zero, List.set_cons_succ]
  refine q_value 36 rfl (.bool false) (by kernel_rfl) (fun w' _ => by kernel_rfl) ?_
  simp only [Act.put, List.setIfInBounds_toArray, List.set_cons_zero, List.set_cons_succ]
  refine BigFrame.wpQuiet_skip (by kernel_rfl) ?_
  simp only [Act.put, List.setIfInBounds_toArray, List.set_cons_zero, List.set_cons_succ]
  refine BigFrame.wpQuiet_skip (by kernel_rfl) ?_
  simp only [Act.put, List.setIfInBounds_toArray, List.set_cons_zero, List.set_cons_succ]
  refine BigFrame.wpQuiet_skip (by kernel_rfl) ?_
  simp only [Act.put, List.setIfInBounds_toArray, List.set_cons_zero, List.set_cons_succ]
  refine BigFrame.wpQuiet_skip (by kernel_rfl) ?_
  simp only [Act.put, List.setIfInBounds_toArray, List.set_cons_zero, List.set_cons_succ]
  refine BigFrame.wpQuiet_skip (by kernel_rfl) ?_
  simp only [Act.put, List.setIfInBounds_toArray, List.set_cons_zero, List.set_cons_succ]
  refine q_value 42 rfl (.bool false) (by kernel_rfl) (fun w' _ => by kernel_rfl) ?_
  simp only [Act.put, List.setIfInBounds_toArray, List.set_cons_zero, List.set_cons_succ]
  refine q_value 43 rfl (.bool false) (by kernel_rfl) (fun w' _ => by kernel_rfl) ?_
  simp only [Act.put, List.setIfInBounds_toArray, List.set_cons_zero, List.set_cons_succ]
  refine BigFrame.wpQuiet_skip (by kernel_rfl) ?_
  simp only [Act.put, List.setIfInBounds_toArray, List.set_cons_zero, List.set_cons_succ]
  refine BigFrame.wpQuiet_skip (by kernel_rfl) ?_
  simp only [Act.put, List.setIfInBounds_toArray, List.set_cons_zero, List.set_cons_succ]
  refine BigFrame.wpQuiet_skip (by kernel_rfl) ?_
  simp only [Act.put, List.setIfInBounds_toArray, List.set_cons_zero, List.set_cons_succ]
  refine BigFrame.wpQuiet_skip (by kernel_rfl) ?_
  simp only [Act.put, List.setIfInBounds_toArray, List.set_cons_zero, List.set_cons_succ]
  refine BigFrame.wpQuiet_skip (by kernel_rfl) ?_
  simp only [Act.put, List.setIfInBounds_toArray, List.set_cons_zero, List.set_cons_succ]
  refine q_value 49 rfl (.bool false) (by kernel_rfl) (fun w' _ => by kernel_rfl) ?_
  simp only [Act.put, List.setIfInBounds_toArray, List.set_cons_zero, List.set_cons_succ]
  refine q_value 50 rfl (.bool false) (by kernel_rfl) (fun w' _ => by kernel_rfl) ?_
  simp only [Act.put, List.setIfInBounds_toArray, List.set_cons_zero, List.set_cons_succ]
  refine BigFrame.wpQuiet_skip (by kernel_rfl) ?_
  simp only [Act.put, List.setIfInBounds_toArray, List.set_cons_zero, List.set_cons_succ]
  refine BigFrame.wpQuiet_skip (by kernel_rfl) ?_
  simp only [Act.put, List.setIfInBounds_toArray, List.set_cons_zero, List.set_cons_succ]
  refine BigFrame.wpQuiet_skip (by kernel_rfl) ?_
  simp only [Act.put, List.setIfInBounds_toArray, List.set_cons_zero, List.set_cons_succ]
  refine BigFrame.wpQuiet_skip (by kernel_rfl) ?_
  simp only [Act.put, List.setIfInBounds_toArray, List.set_cons_zero, List.set_cons_succ]
  refine q_value 55 rfl (.bool false) (by kernel_rfl) (fun w' _ => by kernel_rfl) ?_
  simp only [Act.put, List.setIfInBounds_toArray, List.set_cons_zero, List.set_cons_succ]
  refine q_value 2 rfl (.bool false) (by kernel_rfl) (fun w' _ => by kernel_rfl) ?_
  simp only [Act.put, List.setIfInBounds_toArray, List.set_cons_zero, List.set_cons_succ]
  refine wpQuiet_nil ?_
  intro w2 hC
  go_wp2_with fail
  go_ret
  exact ⟨rfl, below_step bel1 bel1.size hC⟩
set_option maxHeartbeats 8000000 in
set_option maxRecDepth 100000 in
theorem right_no2 (s : Sta) (w : World) (ok : s.Ok) (c1 : Wn.WRt s.min s.last s.counts) (c2 : ¬ (s.last = s.slot / 3)) : Calls Try.prog 33 #[.agg (scs s).toArray] w fun e w' => e = .returned (.bool false) ∧ Below w.heap.size w w' := by
  have OK := Lib.hid ok
  have C1 : Hid (∀ w0, Calls Try.prog 57 #[.agg (Wn.wcs s.min s.last s.counts).toArray] w0 fun e w' => e = .returned (.bool true) ∧ Below w0.heap.size w0 w') := Lib.hid (fun w0 => decide_eq_true c1 ▸ Wn.wright_any s.min s.last s.counts w0 ok.min ok.last ok.clt ok.counts)
  have B2 : Hid (decide ((s.last : Int) = ((s.slot / 3 : Nat) : Int)) = false) := Lib.hid (decide_eq_false (by omega))
  clear ok c1 c2
  go_enter Try.func33, Try.ntmps33
  go_wp2_with (first
    | ((with_reducible refine at_slot 1 ?_); (refine arm_box (o := ⟨some 1, _, _, _, _, _⟩) rfl _ _ rfl (scs s) rfl ?_); intro S w1 Se hw1 nw1; have c362 := hw1.cell (sc_next OK.out)))
  have HR := Lib.hid hw1
  have bel1 := nw1.below
  clear hw1 c362 Se nw1
  refine wp_region_quiet (C := fun w' => Below w1.heap.size w1 w') (by kernel_rfl) (by kernel_rfl) ((Below.refl _ _).drew) ?_
  rw [List.toList_toArray]
  refine q_value 8 rfl (.pointer (some ⟨S, 99, none⟩)) (by kernel_rfl) (fun w' _ => by kernel_rfl) ?_
  simp only [Act.put, List.setIfInBounds_toArray, List.set_cons_zero, List.set_cons_succ]
  refine q_value 9 rfl (.agg (Wn.wcs s.min s.last s.counts).toArray) (by kernel_rfl) (fun w' hC => run_op_load _ _ rfl S 99 rfl _ ((s_win OK.out).range (HR.out.old hC)) (Wn.sz_win OK.out.counts)) ?_
  simp only [Act.put, List.setIfInBounds_toArray, List.set_cons_zero, List.set_cons_succ]
  refine q_call 10 rfl (.bool true) 57 #[.agg (Wn.wcs s.min s.last s.counts).toArray] (by kernel_rfl) (fun w' _ => run_op_call _ _ _ rfl _ (by simp only [List.map_toArray, List.map_cons, List.map_nil]; rfl) Try.func57 (by kernel_rfl) (by kernel_rfl) w') (fun w' hC => (C1.out w').mono fun e w'' h => ⟨h.1, below_step hC hC.size h.2⟩) ?_
  simp only [Act.put, List.setIfInBounds_toArray, List.set_cons_zero, List.set_cons_succ]
  refine q_value 11 rfl (.bool true) (by kernel_rfl) (fun w' _ => by kernel_rfl) ?_
  simp only [Act.put, List.setIfInBounds_toArray, List.set_cons_zero, List.set_cons_succ]
  refine q_value 12 rfl (.pointer (some ⟨S, 99, none⟩)) (by kernel_rfl) (fun w' _ => by kernel_rfl) ?_
  simp only [Act.put, List.setIfInBounds_toArray, List.set_cons_zero, List.set_cons_succ]
  refine q_value 13 rfl (.pointer (some ⟨S, 100, none⟩)) (by kernel_rfl) (fun w' _ => by kernel_rfl) ?_
  simp only [Act.put, List.setIfInBounds_toArray, List.set_cons_zero, List.set_cons_succ]
  refine q_value 14 rfl (.pointer (some ⟨S, 100, none⟩)) (by kernel_rfl) (fun w' _ => by kernel_rfl) ?_
  simp only [Act.put, List.setIfInBounds_toArray, List.set_cons_zero, List.set_cons_succ]
  refine q_value 15 rfl (num32 s.last) (by kernel_rfl) (fun w' hC => run_op_load1 _ _ rfl _ Try.underlying22 rfl ⟨S, 100, none⟩ rfl _ ((HR.out.old hC).cell (sc_last OK.out))) ?_
  simp only [Act.put, List.setIfInBounds_toArray, List.set_cons_zero, List.set_cons_succ]
  refine q_value 16 rfl (.pointer (some ⟨S, 96, none⟩)) (by kernel_rfl) (fun w' _ => by kernel_rfl) ?_
  simp only [Act.put, List.setIfInBounds_toArray, List.set_cons_zero, List.set_cons_succ]
  refine q_value 17 rfl (num32 s.slot) (by kernel_rfl) (fun w' hC => run_op_load1 _ _ rfl _ Try.underlying22 rfl ⟨S, 96, none⟩ rfl _ ((HR.out.old hC).cell (sc_slot OK.out))) ?_
  simp only [Act.put, List.setIfInBounds_toArray, List.set_cons_zero, List.set_cons_succ]
  refine q_call 18 rfl (num32 (s.slot / 3)) 58 #[num32 s.slot] (by kernel_rfl) (fun w' _ => run_op_call _ _ _ rfl _ (by simp only [List.map_toArray, List.map_cons, List.map_nil]; rfl) Try.func58 (by kernel_rfl) (by kernel_rfl) w') (fun w' hC => (Rg.subB_any s.slot w' OK.out.slot).mono fun e w'' h => ⟨h.1, below_step hC hC.size h.2⟩) ?_
  simp only [Act.put, List.setIfInBounds_toArray, List.set_cons_zero, List.set_cons_succ]
  refine q_value 19 rfl (.bool false) (by kernel_rfl) (fun w' _ => cmp_eql _ _ .u32 (by kernel_rfl) _ _ rfl .u32 (s.last : Int) ((s.slot / 3 : Nat) : Int) rfl rfl _ B2.out w') ?_
  simp only [Act.put, List.setIfInBounds_toArray, List.set_cons_zero, List.set_cons_succ]
  refine q_value 20 rfl (.bool false) (by kernel_rfl) (fun w' _ => by kernel_rfl) ?_
  simp only [Act.put, List.setIfInBounds_toArray, List.set_cons_zero, List.set_cons_succ]
  refine q_value 21 rfl (.bool false) (by kernel_rfl) (fun w' _ => by kernel_rfl) ?_
  simp only [Act.put, List.setIfInBounds_toArray, List.set_cons_zero, List.set_cons_succ]
  refine BigFrame.wpQuiet_skip (by kernel_rfl) ?_
  simp only [Act.put, List.setIfInBounds_toArray, List.set_cons_zero, List.set_cons_succ]
  refine BigFrame.wpQuiet_skip (by kernel_rfl) ?_
  simp only [Act.put, List.setIfInBounds_toArray, List.set_cons_zero, List.set_cons_succ]
  refine BigFrame.wpQuiet_skip (by kernel_rfl) ?_
  simp only [Act.put, List.setIfInBounds_toArray, List.set_cons_zero, List.set_cons_succ]
  refine BigFrame.wpQuiet_skip (by kernel_rfl) ?_
  simp only [Act.put, List.setIfInBounds_toArray, List.set_cons_zero, List.set_cons_succ]
  refine BigFrame.wpQuiet_skip (by kernel_rfl) ?_
  simp only [Act.put, List.setIfInBounds_toArray, List.set_cons_zero, List.set_cons_succ]
  refine q_value 27 rfl (.bool false) (by kernel_rfl) (fun w' _ => by kernel_rfl) ?_
  simp only [Act.put, List.setIfInBounds_toArray, List.set_cons_zero, List.set_cons_succ]
  refine q_value 28 rfl (.bool false) (by kernel_rfl) (fun w' _ => by kernel_rfl) ?_
  simp only [Act.put, List.setIfInBounds_toArray, List.set_cons_zero, List.set_cons_succ]
  refine BigFrame.wpQuiet_skip (by kernel_rfl) ?_
  simp only [Act.put, List.setIfInBounds_toArray, List.set_cons_zero, List.set_cons_succ]
  refine BigFrame.wpQuiet_skip (by kernel_rfl) ?_
  simp only [Act.put, List.setIfInBounds_toArray, List.set_cons_zero, List.set_cons_succ]
  refine BigFrame.wpQuiet_skip (by kernel_rfl) ?_
  simp only [Act.put, List.setIfInBounds_toArray, List.set_cons_zero, List.set_cons_succ]
  refine BigFrame.wpQuiet_skip (by kernel_rfl) ?_
  simp only [Act.put, List.setIfInBounds_toArray, List.set_cons_zero, List.set_cons_succ]
  refine BigFrame.wpQuiet_skip (by kernel_rfl) ?_
  simp only [Act.put, List.setIfInBounds_toArray, List.set_cons_zero, List.set_cons_succ]
  refine BigFrame.wpQuiet_skip (by kernel_rfl) ?_
  simp only [Act.put, List.setIfInBounds_toArray, List.set_cons_zero, List.set_cons_succ]
  refine q_value 35 rfl (.bool false) (by kernel_rfl) (fun w' _ => by kernel_rfl) ?_
  simp only [Act.put, List.setIfInBounds_toArray, List.set_cons_zero, List.set_cons_succ]
  refine q_value 36 rfl (.bool false) (by kernel_rfl) (fun w' _ => by kernel_rfl) ?_
  simp only [Act.put, List.setIfInBounds_toArray, List.set_cons_zero, List.set_cons_succ]
  refine BigFrame.wpQuiet_skip (by kernel_rfl) ?_
  simp only [Act.put, List.setIfInBounds_toArray, List.set_cons_zero, List.set_cons_succ]
  refine BigFrame.wpQuiet_skip (by kernel_rfl) ?_
  simp only [Act.put, List.setIfInBounds_toArray, List.set_cons_zero, List.set_cons_succ]
  refine BigFrame.wpQuiet_skip (by kernel_rfl) ?_
  simp only [Act.put, List.setIfInBounds_toArray, List.set_cons_zero, List.set_cons_succ]
  refine BigFrame.wpQuiet_skip (by kernel_rfl) ?_
  simp only [Act.put, List.setIfInBounds_toArray, List.set_cons_zero, List.set_cons_succ]
  refine BigFrame.wpQuiet_skip (by kernel_rfl) ?_
  simp only [Act.put, List.setIfInBounds_toArray, List.set_cons_zero, List.set_cons_succ]
  refine q_value 42 rfl (.bool false) (by kernel_rfl) (fun w' _ => by kernel_rfl) ?_
  simp only [Act.put, List.setIfInBounds_toArray, List.set_cons_zero, List.set_cons_succ]
  refine q_value 43 rfl (.bool false) (by kernel_rfl) (fun w' _ => by kernel_rfl) ?_
  simp only [Act.put, List.setIfInBounds_toArray, List.set_cons_zero, List.set_cons_succ]
  refine BigFrame.wpQuiet_skip (by kernel_rfl) ?_
  simp only [Act.put, List.setIfInBounds_toArray, List.set_cons_zero, List.set_cons_succ]
  refine BigFrame.wpQuiet_skip (by kernel_rfl) ?_
  simp only [Act.put, List.setIfInBounds_toArray, List.set_cons_zero, List.set_cons_succ]
  refine BigFrame.wpQuiet_skip (by kernel_rfl) ?_
  simp only [Act.put, List.setIfInBounds_toArray, List.set_cons_zero, List.set_cons_succ]
  refine BigFrame.wpQuiet_skip (by kernel_rfl) ?_
  simp only [Act.put, List.setIfInBounds_toArray, List.set_cons_zero, List.set_cons_succ]
  refine BigFrame.wpQuiet_skip (by kernel_rfl) ?_
  simp only [Act.put, List.setIfInBounds_toArray, List.set_cons_zero, List.set_cons_succ]
  refine q_value 49 rfl (.bool false) (by kernel_rfl) (fun w' _ => by kernel_rfl) ?_
  simp only [Act.put, List.setIfInBounds_toArray, List.set_cons_zero, List.set_cons_succ]
  refine q_value 50 rfl (.bool false) (by kernel_rfl) (fun w' _ => by kernel_rfl) ?_
  simp only [Act.put, List.setIfInBounds_toArray, List.set_cons_zero, List.set_cons_succ]
  refine BigFrame.wpQuiet_skip (by kernel_rfl) ?_
  simp only [Act.put, List.setIfInBounds_toArray, List.set_cons_zero, List.set_cons_succ]
  refine BigFrame.wpQuiet_skip (by kernel_rfl) ?_
  simp only [Act.put, List.setIfInBounds_toArray, List.set_cons_zero, List.set_cons_succ]
  refine BigFrame.wpQuiet_skip (by kernel_rfl) ?_
  simp only [Act.put, List.setIfInBounds_toArray, List.set_cons_zero, List.set_cons_succ]
  refine BigFrame.wpQuiet_skip (by kernel_rfl) ?_
  simp only [Act.put, List.setIfInBounds_toArray, List.set_cons_zero, List.set_cons_succ]
  refine q_value 55 rfl (.bool false) (by kernel_rfl) (fun w' _ => by kernel_rfl) ?_
  simp only [Act.put, List.setIfInBounds_toArray, List.set_cons_zero, List.set_cons_succ]
  refine q_value 2 rfl (.bool false) (by kernel_rfl) (fun w' _ => by kernel_rfl) ?_
  simp only [Act.put, List.setIfInBounds_toArray, List.set_cons_zero, List.set_cons_succ]
  refine wpQuiet_nil ?_
  intro w2 hC
  go_wp2_with fail
  go_ret
  exact ⟨rfl, below_step bel1 bel1.size hC⟩
set_option maxHeartbeats 8000000 in
set_option maxRecDepth 100000 in
theorem right_no3 (s : Sta) (w : World) (ok : s.Ok) (c1 : Wn.WRt s.min s.last s.counts) (c2 : s.last = s.slot / 3) (c3 : ¬ (Fits s.len s.slot)) : Calls Try.prog 33 #[.agg (scs s).toArray] w fun e w' => e = .returned (.bool false) ∧ Below w.heap.size w w' := by
  have OK := Lib.hid ok
  have C1 : Hid (∀ w0, Calls Try.prog 57 #[.agg (Wn.wcs s.min s.last s.counts).toArray] w0 fun e w' => e = .returned (.bool true) ∧ Below w0.heap.size w0 w') := Lib.hid (fun w0 => decide_eq_true c1 ▸ Wn.wright_any s.min s.last s.counts w0 ok.min ok.last ok.clt ok.counts)
  have B2 : Hid (decide ((s.last : Int) = ((s.slot / 3 : Nat) : Int)) = true) := Lib.hid (decide_eq_true (by omega))
  have C3 : Hid (∀ w0, Calls Try.prog 59 #[num32 s.len, num32 s.slot] w0 fun e w' => e = .returned (.bool false) ∧ w0 = w') := Lib.hid (fun w0 => decide_eq_false c3 ▸ fits_any s.len s.slot w0 ok.len ok.slot)
  clear ok c1 c2 c3
  go_enter Try.func33, Try.ntmps33
  go_wp2_with (first
    | ((with_reducible refine at_slot 1 ?_); (refine arm_box (o := ⟨some 1, _, _, _, _, _⟩) rfl _ _ rfl (scs s) rfl ?_); intro S w1 Se hw1 nw1; have c362 := hw1.cell (sc_next OK.out)))
  have HR := Lib.hid hw1
  have bel1 := nw1.below
  clear hw1 c362 Se nw1
  refine wp_region_quiet (C := fun w' => Below w1.heap.size w1 w') (by kernel_rfl) (by kernel_rfl) ((Below.refl _ _).drew) ?_
  rw [List.toList_toArray]
  refine q_value 8 rfl (.pointer (some ⟨S, 99, none⟩)) (by kernel_rfl) (fun w' _ => by kernel_rfl) ?_
  simp only [Act.put, List.setIfInBounds_toArray, List.set_cons_zero, List.set_cons_succ]
  refine q_value 9 rfl (.agg (Wn.wcs s.min s.last s.counts).toArray) (by kernel_rfl) (fun w' hC => run_op_load _ _ rfl S 99 rfl _ ((s_win OK.out).range (HR.out.old hC)) (Wn.sz_win OK.out.counts)) ?_
  simp only [Act.put, List.setIfInBounds_toArray, List.set_cons_zero, List.set_cons_succ]
  refine q_call 10 rfl (.bool true) 57 #[.agg (Wn.wcs s.min s.last s.counts).toArray] (by kernel_rfl) (fun w' _ => run_op_call _ _ _ rfl _ (by simp only [List.map_toArray, List.map_cons, List.map_nil]; rfl) Try.func57 (by kernel_rfl) (by kernel_rfl) w') (fun w' hC => (C1.out w').mono fun e w'' h => ⟨h.1, below_step hC hC.size h.2⟩) ?_
  simp only [Act.put, List.setIfInBounds_toArray, List.set_cons_zero, List.set_cons_succ]
  refine q_value 11 rfl (.bool true) (by kernel_rfl) (fun w' _ => by kernel_rfl) ?_
  simp only [Act.put, List.setIfInBounds_toArray, List.set_cons_zero, List.set_cons_succ]
  refine q_value 12 rfl (.pointer (some ⟨S, 99, none⟩)) (by kernel_rfl) (fun w' _ => by kernel_rfl) ?_
  simp only [Act.put, List.setIfInBounds_toArray, List.set_cons_zero, List.set_cons_succ]
  refine q_value 13 rfl (.pointer (some ⟨S, 100, none⟩)) (by kernel_rfl) (fun w' _ => by kernel_rfl) ?_
  simp only [Act.put, List.setIfInBounds_toArray, List.set_cons_zero, List.set_cons_succ]
  refine q_value 14 rfl (.pointer (some ⟨S, 100, none⟩)) (by kernel_rfl) (fun w' _ => by kernel_rfl) ?_
  simp only [Act.put, List.setIfInBounds_toArray, List.set_cons_zero, List.set_cons_succ]
  refine q_value 15 rfl (num32 s.last) (by kernel_rfl) (fun w' hC => run_op_load1 _ _ rfl _ Try.underlying22 rfl ⟨S, 100, none⟩ rfl _ ((HR.out.old hC).cell (sc_last OK.out))) ?_
  simp only [Act.put, List.setIfInBounds_toArray, List.set_cons_zero, List.set_cons_succ]
  refine q_value 16 rfl (.pointer (some ⟨S, 96, none⟩)) (by kernel_rfl) (fun w' _ => by kernel_rfl) ?_
  simp only [Act.put, List.setIfInBounds_toArray, List.set_cons_zero, List.set_cons_succ]
  refine q_value 17 rfl (num32 s.slot) (by kernel_rfl) (fun w' hC => run_op_load1 _ _ rfl _ Try.underlying22 rfl ⟨S, 96, none⟩ rfl _ ((HR.out.old hC).cell (sc_slot OK.out))) ?_
  simp only [Act.put, List.setIfInBounds_toArray, List.set_cons_zero, List.set_cons_succ]
  refine q_call 18 rfl (num32 (s.slot / 3)) 58 #[num32 s.slot] (by kernel_rfl) (fun w' _ => run_op_call _ _ _ rfl _ (by simp only [List.map_toArray, List.map_cons, List.map_nil]; rfl) Try.func58 (by kernel_rfl) (by kernel_rfl) w') (fun w' hC => (Rg.subB_any s.slot w' OK.out.slot).mono fun e w'' h => ⟨h.1, below_step hC hC.size h.2⟩) ?_
  simp only [Act.put, List.setIfInBounds_toArray, List.set_cons_zero, List.set_cons_succ]
  refine q_value 19 rfl (.bool true) (by kernel_rfl) (fun w' _ => cmp_eql _ _ .u32 (by kernel_rfl) _ _ rfl .u32 (s.last : Int) ((s.slot / 3 : Nat) : Int) rfl rfl _ B2.out w') ?_
  simp only [Act.put, List.setIfInBounds_toArray, List.set_cons_zero, List.set_cons_succ]
  refine q_value 20 rfl (.bool true) (by kernel_rfl) (fun w' _ => by kernel_rfl) ?_
  simp only [Act.put, List.setIfInBounds_toArray, List.set_cons_zero, List.set_cons_succ]
  refine q_value 21 rfl (.bool true) (by kernel_rfl) (fun w' _ => by kernel_rfl) ?_
  simp only [Act.put, List.setIfInBounds_toArray, List.set_cons_zero, List.set_cons_succ]
  refine q_value 22 rfl (.pointer (some ⟨S, 97, none⟩)) (by kernel_rfl) (fun w' _ => by kernel_rfl) ?_
  simp only [Act.put, List.setIfInBounds_toArray, List.set_cons_zero, List.set_cons_succ]
  refine q_value 23 rfl (num32 s.len) (by kernel_rfl) (fun w' hC => run_op_load1 _ _ rfl _ Try.underlying22 rfl ⟨S, 97, none⟩ rfl _ ((HR.out.old hC).cell (sc_len OK.out))) ?_
  simp only [Act.put, List.setIfInBounds_toArray, List.set_cons_zero, List.set_cons_succ]
  refine q_value 24 rfl (.pointer (some ⟨S, 96, none⟩)) (by kernel_rfl) (fun w' _ => by kernel_rfl) ?_
  simp only [Act.put, List.setIfInBounds_toArray, List.set_cons_zero, List.set_cons_succ]
  refine q_value 25 rfl (num32 s.slot) (by kernel_rfl) (fun w' hC => run_op_load1 _ _ rfl _ Try.underlying22 rfl ⟨S, 96, none⟩ rfl _ ((HR.out.old hC).cell (sc_slot OK.out))) ?_
  simp only [Act.put, List.setIfInBounds_toArray, List.set_cons_zero, List.set_cons_succ]
  refine q_call 26 rfl (.bool false) 59 #[num32 s.len, num32 s.slot] (by kernel_rfl) (fun w' _ => run_op_call _ _ _ rfl _ (by simp only [List.map_toArray, List.map_cons, List.map_nil]; rfl) Try.func59 (by kernel_rfl) (by kernel_rfl) w') (fun w' hC => (C3.out w').mono fun e w'' h => ⟨h.1, h.2 ▸ hC⟩) ?_
  simp only [Act.put, List.setIfInBounds_toArray, List.set_cons_zero, List.set_cons_succ]
  refine q_value 27 rfl (.bool false) (by kernel_rfl) (fun w' _ => by kernel_rfl) ?_
  simp only [Act.put, List.setIfInBounds_toArray, List.set_cons_zero, List.set_cons_succ]
  refine q_value 28 rfl (.bool false) (by kernel_rfl) (fun w' _ => by kernel_rfl) ?_
  simp only [Act.put, List.setIfInBounds_toArray, List.set_cons_zero, List.set_cons_succ]
  refine BigFrame.wpQuiet_skip (by kernel_rfl) ?_
  simp only [Act.put, List.setIfInBounds_toArray, List.set_cons_zero, List.set_cons_succ]
  refine BigFrame.wpQuiet_skip (by kernel_rfl) ?_
  simp only [Act.put, List.setIfInBounds_toArray, List.set_cons_zero, List.set_cons_succ]
  refine BigFrame.wpQuiet_skip (by kernel_rfl) ?_
  simp only [Act.put, List.setIfInBounds_toArray, List.set_cons_zero, List.set_cons_succ]
  refine BigFrame.wpQuiet_skip (by kernel_rfl) ?_
  simp only [Act.put, List.setIfInBounds_toArray, List.set_cons_zero, List.set_cons_succ]
  refine BigFrame.wpQuiet_skip (by kernel_rfl) ?_
  simp only [Act.put, List.setIfInBounds_toArray, List.set_cons_zero, List.set_cons_succ]
  refine BigFrame.wpQuiet_skip (by kernel_rfl) ?_
  simp only [Act.put, List.setIfInBounds_toArray, List.set_cons_zero, List.set_cons_succ]
  refine q_value 35 rfl (.bool false) (by kernel_rfl) (fun w' _ => by kernel_rfl) ?_
  simp only [Act.put, List.setIfInBounds_toArray, List.set_cons_zero, List.set_cons_succ]
  refine q_value 36 rfl (.bool false) (by kernel_rfl) (fun w' _ => by kernel_rfl) ?_
  simp only [Act.put, List.setIfInBounds_toArray, List.set_cons_zero, List.set_cons_succ]
  refine BigFrame.wpQuiet_skip (by kernel_rfl) ?_
  simp only [Act.put, List.setIfInBounds_toArray, List.set_cons_zero, List.set_cons_succ]
  refine BigFrame.wpQuiet_skip (by kernel_rfl) ?_
  simp only [Act.put, List.setIfInBounds_toArray, List.set_cons_zero, List.set_cons_succ]
  refine BigFrame.wpQuiet_skip (by kernel_rfl) ?_
  simp only [Act.put, List.setIfInBounds_toArray, List.set_cons_zero, List.set_cons_succ]
  refine BigFrame.wpQuiet_skip (by kernel_rfl) ?_
  simp only [Act.put, List.setIfInBounds_toArray, List.set_cons_zero, List.set_cons_succ]
  refine BigFrame.wpQuiet_skip (by kernel_rfl) ?_
  simp only [Act.put, List.setIfInBounds_toArray, List.set_cons_zero, List.set_cons_succ]
  refine q_value 42 rfl (.bool false) (by kernel_rfl) (fun w' _ => by kernel_rfl) ?_
  simp only [Act.put, List.setIfInBounds_toArray, List.set_cons_zero, List.set_cons_succ]
  refine q_value 43 rfl (.bool false) (by kernel_rfl) (fun w' _ => by kernel_rfl) ?_
  simp only [Act.put, List.setIfInBounds_toArray, List.set_cons_zero, List.set_cons_succ]
  refine BigFrame.wpQuiet_skip (by kernel_rfl) ?_
  simp only [Act.put, List.setIfInBounds_toArray, List.set_cons_zero, List.set_cons_succ]
  refine BigFrame.wpQuiet_skip (by kernel_rfl) ?_
  simp only [Act.put, List.setIfInBounds_toArray, List.set_cons_zero, List.set_cons_succ]
  refine BigFrame.wpQuiet_skip (by kernel_rfl) ?_
  simp only [Act.put, List.setIfInBounds_toArray, List.set_cons_zero, List.set_cons_succ]
  refine BigFrame.wpQuiet_skip (by kernel_rfl) ?_
  simp only [Act.put, List.setIfInBounds_toArray, List.set_cons_zero, List.set_cons_succ]
  refine BigFrame.wpQuiet_skip (by kernel_rfl) ?_
  simp only [Act.put, List.setIfInBounds_toArray, List.set_cons_zero, List.set_cons_succ]
  refine q_value 49 rfl (.bool false) (by kernel_rfl) (fun w' _ => by kernel_rfl) ?_
  simp only [Act.put, List.setIfInBounds_toArray, List.set_cons_zero, List.set_cons_succ]
  refine q_value 50 rfl (.bool false) (by kernel_rfl) (fun w' _ => by kernel_rfl) ?_
  simp only [Act.put, List.setIfInBounds_toArray, List.set_cons_zero, List.set_cons_succ]
  refine BigFrame.wpQuiet_skip (by kernel_rfl) ?_
  simp only [Act.put, List.setIfInBounds_toArray, List.set_cons_zero, List.set_cons_succ]
  refine BigFrame.wpQuiet_skip (by kernel_rfl) ?_
  simp only [Act.put, List.setIfInBounds_toArray, List.set_cons_zero, List.set_cons_succ]
  refine BigFrame.wpQuiet_skip (by kernel_rfl) ?_
  simp only [Act.put, List.setIfInBounds_toArray, List.set_cons_zero, List.set_cons_succ]
  refine BigFrame.wpQuiet_skip (by kernel_rfl) ?_
  simp only [Act.put, List.setIfInBounds_toArray, List.set_cons_zero, List.set_cons_succ]
  refine q_value 55 rfl (.bool false) (by kernel_rfl) (fun w' _ => by kernel_rfl) ?_
  simp only [Act.put, List.setIfInBounds_toArray, List.set_cons_zero, List.set_cons_succ]
  refine q_value 2 rfl (.bool false) (by kernel_rfl) (fun w' _ => by kernel_rfl) ?_
  simp only [Act.put, List.setIfInBounds_toArray, List.set_cons_zero, List.set_cons_succ]
  refine wpQuiet_nil ?_
  intro w2 hC
  go_wp2_with fail
  go_ret
  exact ⟨rfl, below_step bel1 bel1.size hC⟩
set_option maxHeartbeats 8000000 in
set_option maxRecDepth 100000 in
theorem right_no4 (s : Sta) (w : World) (ok : s.Ok) (c1 : Wn.WRt s.min s.last s.counts) (c2 : s.last = s.slot / 3) (c3 : Fits s.len s.slot) (c4 : ¬ (s.count ≤ s.slot / 24)) : Calls Try.prog 33 #[.agg (scs s).toArray] w fun e w' => e = .returned (.bool false) ∧ Below w.heap.size w w' := by
  have OK := Lib.hid ok
  have C1 : Hid (∀ w0, Calls Try.prog 57 #[.agg (Wn.wcs s.min s.last s.counts).toArray] w0 fun e w' => e = .returned (.bool true) ∧ Below w0.heap.size w0 w') := Lib.hid (fun w0 => decide_eq_true c1 ▸ Wn.wright_any s.min s.last s.counts w0 ok.min ok.last ok.clt ok.counts)
  have B2 : Hid (decide ((s.last : Int) = ((s.slot / 3 : Nat) : Int)) = true) := Lib.hid (decide_eq_true (by omega))
  have C3 : Hid (∀ w0, Calls Try.prog 59 #[num32 s.len, num32 s.slot] w0 fun e w' => e = .returned (.bool true) ∧ w0 = w') := Lib.hid (fun w0 => decide_eq_true c3 ▸ fits_any s.len s.slot w0 ok.len ok.slot)
  have B4 : Hid (decide ((s.count : Int) ≤ ((s.slot / 24 : Nat) : Int)) = false) := Lib.hid (decide_eq_false (by omega))
  clear ok c1 c2 c3 c4
  go_enter Try.func33, Try.ntmps33
  go_wp2_with (first
    | ((with_reducible refine at_slot 1 ?_); (refine arm_box (o := ⟨some 1, _, _, _, _, _⟩) rfl _ _ rfl (scs s) rfl ?_); intro S w1 Se hw1 nw1; have c362 := hw1.cell (sc_next OK.out)))
  have HR := Lib.hid hw1
  have bel1 := nw1.below
  clear hw1 c362 Se nw1
  refine wp_region_quiet (C := fun w' => Below w1.heap.size w1 w') (by kernel_rfl) (by kernel_rfl) ((Below.refl _ _).drew) ?_
  rw [List.toList_toArray]
  refine q_value 8 rfl (.pointer (some ⟨S, 99, none⟩)) (by kernel_rfl) (fun w' _ => by kernel_rfl) ?_
  simp only [Act.put, List.setIfInBounds_toArray, List.set_cons_zero, List.set_cons_succ]
  refine q_value 9 rfl (.agg (Wn.wcs s.min s.last s.counts).toArray) (by kernel_rfl) (fun w' hC => run_op_load _ _ rfl S 99 rfl _ ((s_win OK.out).range (HR.out.old hC)) (Wn.sz_win OK.out.counts)) ?_
  simp only [Act.put, List.setIfInBounds_toArray, List.set_cons_zero, List.set_cons_succ]
  refine q_call 10 rfl (.bool true) 57 #[.agg (Wn.wcs s.min s.last s.counts).toArray] (by kernel_rfl) (fun w' _ => run_op_call _ _ _ rfl _ (by simp only [List.map_toArray, List.map_cons, List.map_nil]; rfl) Try.func57 (by kernel_rfl) (by kernel_rfl) w') (fun w' hC => (C1.out w').mono fun e w'' h => ⟨h.1, below_step hC hC.size h.2⟩) ?_
  simp only [Act.put, List.setIfInBounds_toArray, List.set_cons_zero, List.set_cons_succ]
  refine q_value 11 rfl (.bool true) (by kernel_rfl) (fun w' _ => by kernel_rfl) ?_
  simp only [Act.put, List.setIfInBounds_toArray, List.set_cons_zero, List.set_cons_succ]
  refine q_value 12 rfl (.pointer (some ⟨S, 99, none⟩)) (by kernel_rfl) (fun w' _ => by kernel_rfl) ?_
  simp only [Act.put, List.setIfInBounds_toArray, List.set_cons_zero, List.set_cons_succ]
  refine q_value 13 rfl (.pointer (some ⟨S, 100, none⟩)) (by kernel_rfl) (fun w' _ => by kernel_rfl) ?_
  simp only [Act.put, List.setIfInBounds_toArray, List.set_cons_zero, List.set_cons_succ]
  refine q_value 14 rfl (.pointer (some ⟨S, 100, none⟩)) (by kernel_rfl) (fun w' _ => by kernel_rfl) ?_
  simp only [Act.put, List.setIfInBounds_toArray, List.set_cons_zero, List.set_cons_succ]
  refine q_value 15 rfl (num32 s.last) (by kernel_rfl) (fun w' hC => run_op_load1 _ _ rfl _ Try.underlying22 rfl ⟨S, 100, none⟩ rfl _ ((HR.out.old hC).cell (sc_last OK.out))) ?_
  simp only [Act.put, List.setIfInBounds_toArray, List.set_cons_zero, List.set_cons_succ]
  refine q_value 16 rfl (.pointer (some ⟨S, 96, none⟩)) (by kernel_rfl) (fun w' _ => by kernel_rfl) ?_
  simp only [Act.put, List.setIfInBounds_toArray, List.set_cons_zero, List.set_cons_succ]
  refine q_value 17 rfl (num32 s.slot) (by kernel_rfl) (fun w' hC => run_op_load1 _ _ rfl _ Try.underlying22 rfl ⟨S, 96, none⟩ rfl _ ((HR.out.old hC).cell (sc_slot OK.out))) ?_
  simp only [Act.put, List.setIfInBounds_toArray, List.set_cons_zero, List.set_cons_succ]
  refine q_call 18 rfl (num32 (s.slot / 3)) 58 #[num32 s.slot] (by kernel_rfl) (fun w' _ => run_op_call _ _ _ rfl _ (by simp only [List.map_toArray, List.map_cons, List.map_nil]; rfl) Try.func58 (by kernel_rfl) (by kernel_rfl) w') (fun w' hC => (Rg.subB_any s.slot w' OK.out.slot).mono fun e w'' h => ⟨h.1, below_step hC hC.size h.2⟩) ?_
  simp only [Act.put, List.setIfInBounds_toArray, List.set_cons_zero, List.set_cons_succ]
  refine q_value 19 rfl (.bool true) (by kernel_rfl) (fun w' _ => cmp_eql _ _ .u32 (by kernel_rfl) _ _ rfl .u32 (s.last : Int) ((s.slot / 3 : Nat) : Int) rfl rfl _ B2.out w') ?_
  simp only [Act.put, List.setIfInBounds_toArray, List.set_cons_zero, List.set_cons_succ]
  refine q_value 20 rfl (.bool true) (by kernel_rfl) (fun w' _ => by kernel_rfl) ?_
  simp only [Act.put, List.setIfInBounds_toArray, List.set_cons_zero, List.set_cons_succ]
  refine q_value 21 rfl (.bool true) (by kernel_rfl) (fun w' _ => by kernel_rfl) ?_
  simp only [Act.put, List.setIfInBounds_toArray, List.set_cons_zero, List.set_cons_succ]
  refine q_value 22 rfl (.pointer (some ⟨S, 97, none⟩)) (by kernel_rfl) (fun w' _ => by kernel_rfl) ?_
  simp only [Act.put, List.setIfInBounds_toArray, List.set_cons_zero, List.set_cons_succ]
  refine q_value 23 rfl (num32 s.len) (by kernel_rfl) (fun w' hC => run_op_load1 _ _ rfl _ Try.underlying22 rfl ⟨S, 97, none⟩ rfl _ ((HR.out.old hC).cell (sc_len OK.out))) ?_
  simp only [Act.put, List.setIfInBounds_toArray, List.set_cons_zero, List.set_cons_succ]
  refine q_value 24 rfl (.pointer (some ⟨S, 96, none⟩)) (by kernel_rfl) (fun w' _ => by kernel_rfl) ?_
  simp only [Act.put, List.setIfInBounds_toArray, List.set_cons_zero, List.set_cons_succ]
  refine q_value 25 rfl (num32 s.slot) (by kernel_rfl) (fun w' hC => run_op_load1 _ _ rfl _ Try.underlying22 rfl ⟨S, 96, none⟩ rfl _ ((HR.out.old hC).cell (sc_slot OK.out))) ?_
  simp only [Act.put, List.setIfInBounds_toArray, List.set_cons_zero, List.set_cons_succ]
  refine q_call 26 rfl (.bool true) 59 #[num32 s.len, num32 s.slot] (by kernel_rfl) (fun w' _ => run_op_call _ _ _ rfl _ (by simp only [List.map_toArray, List.map_cons, List.map_nil]; rfl) Try.func59 (by kernel_rfl) (by kernel_rfl) w') (fun w' hC => (C3.out w').mono fun e w'' h => ⟨h.1, h.2 ▸ hC⟩) ?_
  simp only [Act.put, List.setIfInBounds_toArray, List.set_cons_zero, List.set_cons_succ]
  refine q_value 27 rfl (.bool true) (by kernel_rfl) (fun w' _ => by kernel_rfl) ?_
  simp only [Act.put, List.setIfInBounds_toArray, List.set_cons_zero, List.set_cons_succ]
  refine q_value 28 rfl (.bool true) (by kernel_rfl) (fun w' _ => by kernel_rfl) ?_
  simp only [Act.put, List.setIfInBounds_toArray, List.set_cons_zero, List.set_cons_succ]
  refine q_value 29 rfl (.pointer (some ⟨S, 98, none⟩)) (by kernel_rfl) (fun w' _ => by kernel_rfl) ?_
  simp only [Act.put, List.setIfInBounds_toArray, List.set_cons_zero, List.set_cons_succ]
  refine q_value 30 rfl (num32 s.count) (by kernel_rfl) (fun w' hC => run_op_load1 _ _ rfl _ Try.underlying22 rfl ⟨S, 98, none⟩ rfl _ ((HR.out.old hC).cell (sc_count OK.out))) ?_
  simp only [Act.put, List.setIfInBounds_toArray, List.set_cons_zero, List.set_cons_succ]
  refine q_value 31 rfl (.pointer (some ⟨S, 96, none⟩)) (by kernel_rfl) (fun w' _ => by kernel_rfl) ?_
  simp only [Act.put, List.setIfInBounds_toArray, List.set_cons_zero, List.set_cons_succ]
  refine q_value 32 rfl (num32 s.slot) (by kernel_rfl) (fun w' hC => run_op_load1 _ _ rfl _ Try.underlying22 rfl ⟨S, 96, none⟩ rfl _ ((HR.out.old hC).cell (sc_slot OK.out))) ?_
  simp only [Act.put, List.setIfInBounds_toArray, List.set_cons_zero, List.set_cons_succ]
  refine q_call 33 rfl (num32 (s.slot / 24)) 60 #[num32 s.slot] (by kernel_rfl) (fun w' _ => run_op_call _ _ _ rfl _ (by simp only [List.map_toArray, List.map_cons, List.map_nil]; rfl) Try.func60 (by kernel_rfl) (by kernel_rfl) w') (fun w' hC => (Slot.epochB_any s.slot w' OK.out.slot).mono fun e w'' h => ⟨h.1, below_step hC hC.size h.2⟩) ?_
  simp only [Act.put, List.setIfInBounds_toArray, List.set_cons_zero, List.set_cons_succ]
  refine q_value 34 rfl (.bool false) (by kernel_rfl) (fun w' _ => cmp_leq _ _ _ _ rfl .u32 (s.count : Int) ((s.slot / 24 : Nat) : Int) rfl rfl _ B4.out w') ?_
  simp only [Act.put, List.setIfInBounds_toArray, List.set_cons_zero, List.set_cons_succ]
  refine q_value 35 rfl (.bool false) (by kernel_rfl) (fun w' _ => by kernel_rfl) ?_
  simp only [Act.put, List.setIfInBounds_toArray, List.set_cons_zero, List.set_cons_succ]
  refine q_value 36 rfl (.bool false) (by kernel_rfl) (fun w' _ => by kernel_rfl) ?_
  simp only [Act.put, List.setIfInBounds_toArray, List.set_cons_zero, List.set_cons_succ]
  refine BigFrame.wpQuiet_skip (by kernel_rfl) ?_
  simp only [Act.put, List.setIfInBounds_toArray, List.set_cons_zero, List.set_cons_succ]
  refine BigFrame.wpQuiet_skip (by kernel_rfl) ?_
  simp only [Act.put, List.setIfInBounds_toArray, List.set_cons_zero, List.set_cons_succ]
  refine BigFrame.wpQuiet_skip (by kernel_rfl) ?_
  simp only [Act.put, List.setIfInBounds_toArray, List.set_cons_zero, List.set_cons_succ]
  refine BigFrame.wpQuiet_skip (by kernel_rfl) ?_
  simp only [Act.put, List.setIfInBounds_toArray, List.set_cons_zero, List.set_cons_succ]
  refine BigFrame.wpQuiet_skip (by kernel_rfl) ?_
  simp only [Act.put, List.setIfInBounds_toArray, List.set_cons_zero, List.set_cons_succ]
  refine q_value 42 rfl (.bool false) (by kernel_rfl) (fun w' _ => by kernel_rfl) ?_
  simp only [Act.put, List.setIfInBounds_toArray, List.set_cons_zero, List.set_cons_succ]
  refine q_value 43 rfl (.bool false) (by kernel_rfl) (fun w' _ => by kernel_rfl) ?_
  simp only [Act.put, List.setIfInBounds_toArray, List.set_cons_zero, List.set_cons_succ]
  refine BigFrame.wpQuiet_skip (by kernel_rfl) ?_
  simp only [Act.put, List.setIfInBounds_toArray, List.set_cons_zero, List.set_cons_succ]
  refine BigFrame.wpQuiet_skip (by kernel_rfl) ?_
  simp only [Act.put, List.setIfInBounds_toArray, List.set_cons_zero, List.set_cons_succ]
  refine BigFrame.wpQuiet_skip (by kernel_rfl) ?_
  simp only [Act.put, List.setIfInBounds_toArray, List.set_cons_zero, List.set_cons_succ]
  refine BigFrame.wpQuiet_skip (by kernel_rfl) ?_
  simp only [Act.put, List.setIfInBounds_toArray, List.set_cons_zero, List.set_cons_succ]
  refine BigFrame.wpQuiet_skip (by kernel_rfl) ?_
  simp only [Act.put, List.setIfInBounds_toArray, List.set_cons_zero, List.set_cons_succ]
  refine q_value 49 rfl (.bool false) (by kernel_rfl) (fun w' _ => by kernel_rfl) ?_
  simp only [Act.put, List.setIfInBounds_toArray, List.set_cons_zero, List.set_cons_succ]
  refine q_value 50 rfl (.bool false) (by kernel_rfl) (fun w' _ => by kernel_rfl) ?_
  simp only [Act.put, List.setIfInBounds_toArray, List.set_cons_zero, List.set_cons_succ]
  refine BigFrame.wpQuiet_skip (by kernel_rfl) ?_
  simp only [Act.put, List.setIfInBounds_toArray, List.set_cons_zero, List.set_cons_succ]
  refine BigFrame.wpQuiet_skip (by kernel_rfl) ?_
  simp only [Act.put, List.setIfInBounds_toArray, List.set_cons_zero, List.set_cons_succ]
  refine BigFrame.wpQuiet_skip (by kernel_rfl) ?_
  simp only [Act.put, List.setIfInBounds_toArray, List.set_cons_zero, List.set_cons_succ]
  refine BigFrame.wpQuiet_skip (by kernel_rfl) ?_
  simp only [Act.put, List.setIfInBounds_toArray, List.set_cons_zero, List.set_cons_succ]
  refine q_value 55 rfl (.bool false) (by kernel_rfl) (fun w' _ => by kernel_rfl) ?_
  simp only [Act.put, List.setIfInBounds_toArray, List.set_cons_zero, List.set_cons_succ]
  refine q_value 2 rfl (.bool false) (by kernel_rfl) (fun w' _ => by kernel_rfl) ?_
  simp only [Act.put, List.setIfInBounds_toArray, List.set_cons_zero, List.set_cons_succ]
  refine wpQuiet_nil ?_
  intro w2 hC
  go_wp2_with fail
  go_ret
  exact ⟨rfl, below_step bel1 bel1.size hC⟩
set_option maxHeartbeats 8000000 in
set_option maxRecDepth 100000 in
theorem right_no5 (s : Sta) (w : World) (ok : s.Ok) (c1 : Wn.WRt s.min s.last s.counts) (c2 : s.last = s.slot / 3) (c3 : Fits s.len s.slot) (c4 : s.count ≤ s.slot / 24) (c5 : ¬ (s.count < s.len)) : Calls Try.prog 33 #[.agg (scs s).toArray] w fun e w' => e = .returned (.bool false) ∧ Below w.heap.size w w' := by
  have OK := Lib.hid ok
  have C1 : Hid (∀ w0, Calls Try.prog 57 #[.agg (Wn.wcs s.min s.last s.counts).toArray] w0 fun e w' => e = .returned (.bool true) ∧ Below w0.heap.size w0 w') := Lib.hid (fun w0 => decide_eq_true c1 ▸ Wn.wright_any s.min s.last s.counts w0 ok.min ok.last ok.clt ok.counts)
  have B2 : Hid (decide ((s.last : Int) = ((s.slot / 3 : Nat) : Int)) = true) := Lib.hid (decide_eq_true (by omega))
  have C3 : Hid (∀ w0, Calls Try.prog 59 #[num32 s.len, num32 s.slot] w0 fun e w' => e = .returned (.bool true) ∧ w0 = w') := Lib.hid (fun w0 => decide_eq_true c3 ▸ fits_any s.len s.slot w0 ok.len ok.slot)
  have B4 : Hid (decide ((s.count : Int) ≤ ((s.slot / 24 : Nat) : Int)) = true) := Lib.hid (decide_eq_true (by omega))
  have B5 : Hid (decide ((s.count : Int) < (s.len : Int)) = false) := Lib.hid (decide_eq_false (by omega))
  clear ok c1 c2 c3 c4 c5
  go_enter Try.func33, Try.ntmps33
  go_wp2_with (first
    | ((with_reducible refine at_slot 1 ?_); (refine arm_box (o := ⟨some 1, _, _, _, _, _⟩) rfl _ _ rfl (scs s) rfl ?_); intro S w1 Se hw1 nw1; have c362 := hw1.cell (sc_next OK.out)))
  have HR := Lib.hid hw1
  have bel1 := nw1.below
  clear hw1 c362 Se nw1
  refine wp_region_quiet (C := fun w' => Below w1.heap.size w1 w') (by kernel_rfl) (by kernel_rfl) ((Below.refl _ _).drew) ?_
  rw [List.toList_toArray]
  refine q_value 8 rfl (.pointer (some ⟨S, 99, none⟩)) (by kernel_rfl) (fun w' _ => by kernel_rfl) ?_
  simp only [Act.put, List.setIfInBounds_toArray, List.set_cons_zero, List.set_cons_succ]
  refine q_value 9 rfl (.agg (Wn.wcs s.min s.last s.counts).toArray) (by kernel_rfl) (fun w' hC => run_op_load _ _ rfl S 99 rfl _ ((s_win OK.out).range (HR.out.old hC)) (Wn.sz_win OK.out.counts)) ?_
  simp only [Act.put, List.setIfInBounds_toArray, List.set_cons_zero, List.set_cons_succ]
  refine q_call 10 rfl (.bool true) 57 #[.agg (Wn.wcs s.min s.last s.counts).toArray] (by kernel_rfl) (fun w' _ => run_op_call _ _ _ rfl _ (by simp only [List.map_toArray, List.map_cons, List.map_nil]; rfl) Try.func57 (by kernel_rfl) (by kernel_rfl) w') (fun w' hC => (C1.out w').mono fun e w'' h => ⟨h.1, below_step hC hC.size h.2⟩) ?_
  simp only [Act.put, List.setIfInBounds_toArray, List.set_cons_zero, List.set_cons_succ]
  refine q_value 11 rfl (.bool true) (by kernel_rfl) (fun w' _ => by kernel_rfl) ?_
  simp only [Act.put, List.setIfInBounds_toArray, List.set_cons_zero, List.set_cons_succ]
  refine q_value 12 rfl (.pointer (some ⟨S, 99, none⟩)) (by kernel_rfl) (fun w' _ => by kernel_rfl) ?_
  simp only [Act.put, List.setIfInBounds_toArray, List.set_cons_zero, List.set_cons_succ]
  refine q_value 13 rfl (.pointer (some ⟨S, 100, none⟩)) (by kernel_rfl) (fun w' _ => by kernel_rfl) ?_
  simp only [Act.put, List.setIfInBounds_toArray, List.set_cons_zero, List.set_cons_succ]
  refine q_value 14 rfl (.pointer (some ⟨S, 100, none⟩)) (by kernel_rfl) (fun w' _ => by kernel_rfl) ?_
  simp only [Act.put, List.setIfInBounds_toArray, List.set_cons_zero, List.set_cons_succ]
  refine q_value 15 rfl (num32 s.last) (by kernel_rfl) (fun w' hC => run_op_load1 _ _ rfl _ Try.underlying22 rfl ⟨S, 100, none⟩ rfl _ ((HR.out.old hC).cell (sc_last OK.out))) ?_
  simp only [Act.put, List.setIfInBounds_toArray, List.set_cons_zero, List.set_cons_succ]
  refine q_value 16 rfl (.pointer (some ⟨S, 96, none⟩)) (by kernel_rfl) (fun w' _ => by kernel_rfl) ?_
  simp only [Act.put, List.setIfInBounds_toArray, List.set_cons_zero, List.set_cons_succ]
  refine q_value 17 rfl (num32 s.slot) (by kernel_rfl) (fun w' hC => run_op_load1 _ _ rfl _ Try.underlying22 rfl ⟨S, 96, none⟩ rfl _ ((HR.out.old hC).cell (sc_slot OK.out))) ?_
  simp only [Act.put, List.setIfInBounds_toArray, List.set_cons_zero, List.set_cons_succ]
  refine q_call 18 rfl (num32 (s.slot / 3)) 58 #[num32 s.slot] (by kernel_rfl) (fun w' _ => run_op_call _ _ _ rfl _ (by simp only [List.map_toArray, List.map_cons, List.map_nil]; rfl) Try.func58 (by kernel_rfl) (by kernel_rfl) w') (fun w' hC => (Rg.subB_any s.slot w' OK.out.slot).mono fun e w'' h => ⟨h.1, below_step hC hC.size h.2⟩) ?_
  simp only [Act.put, List.setIfInBounds_toArray, List.set_cons_zero, List.set_cons_succ]
  refine q_value 19 rfl (.bool true) (by kernel_rfl) (fun w' _ => cmp_eql _ _ .u32 (by kernel_rfl) _ _ rfl .u32 (s.last : Int) ((s.slot / 3 : Nat) : Int) rfl rfl _ B2.out w') ?_
  simp only [Act.put, List.setIfInBounds_toArray, List.set_cons_zero, List.set_cons_succ]
  refine q_value 20 rfl (.bool true) (by kernel_rfl) (fun w' _ => by kernel_rfl) ?_
  simp only [Act.put, List.setIfInBounds_toArray, List.set_cons_zero, List.set_cons_succ]
  refine q_value 21 rfl (.bool true) (by kernel_rfl) (fun w' _ => by kernel_rfl) ?_
  simp only [Act.put, List.setIfInBounds_toArray, List.set_cons_zero, List.set_cons_succ]
  refine q_value 22 rfl (.pointer (some ⟨S, 97, none⟩)) (by kernel_rfl) (fun w' _ => by kernel_rfl) ?_
  simp only [Act.put, List.setIfInBounds_toArray, List.set_cons_zero, List.set_cons_succ]
  refine q_value 23 rfl (num32 s.len) (by kernel_rfl) (fun w' hC => run_op_load1 _ _ rfl _ Try.underlying22 rfl ⟨S, 97, none⟩ rfl _ ((HR.out.old hC).cell (sc_len OK.out))) ?_
  simp only [Act.put, List.setIfInBounds_toArray, List.set_cons_zero, List.set_cons_succ]
  refine q_value 24 rfl (.pointer (some ⟨S, 96, none⟩)) (by kernel_rfl) (fun w' _ => by kernel_rfl) ?_
  simp only [Act.put, List.setIfInBounds_toArray, List.set_cons_zero, List.set_cons_succ]
  refine q_value 25 rfl (num32 s.slot) (by kernel_rfl) (fun w' hC => run_op_load1 _ _ rfl _ Try.underlying22 rfl ⟨S, 96, none⟩ rfl _ ((HR.out.old hC).cell (sc_slot OK.out))) ?_
  simp only [Act.put, List.setIfInBounds_toArray, List.set_cons_zero, List.set_cons_succ]
  refine q_call 26 rfl (.bool true) 59 #[num32 s.len, num32 s.slot] (by kernel_rfl) (fun w' _ => run_op_call _ _ _ rfl _ (by simp only [List.map_toArray, List.map_cons, List.map_nil]; rfl) Try.func59 (by kernel_rfl) (by kernel_rfl) w') (fun w' hC => (C3.out w').mono fun e w'' h => ⟨h.1, h.2 ▸ hC⟩) ?_
  simp only [Act.put, List.setIfInBounds_toArray, List.set_cons_zero, List.set_cons_succ]
  refine q_value 27 rfl (.bool true) (by kernel_rfl) (fun w' _ => by kernel_rfl) ?_
  simp only [Act.put, List.setIfInBounds_toArray, List.set_cons_zero, List.set_cons_succ]
  refine q_value 28 rfl (.bool true) (by kernel_rfl) (fun w' _ => by kernel_rfl) ?_
  simp only [Act.put, List.setIfInBounds_toArray, List.set_cons_zero, List.set_cons_succ]
  refine q_value 29 rfl (.pointer (some ⟨S, 98, none⟩)) (by kernel_rfl) (fun w' _ => by kernel_rfl) ?_
  simp only [Act.put, List.setIfInBounds_toArray, List.set_cons_zero, List.set_cons_succ]
  refine q_value 30 rfl (num32 s.count) (by kernel_rfl) (fun w' hC => run_op_load1 _ _ rfl _ Try.underlying22 rfl ⟨S, 98, none⟩ rfl _ ((HR.out.old hC).cell (sc_count OK.out))) ?_
  simp only [Act.put, List.setIfInBounds_toArray, List.set_cons_zero, List.set_cons_succ]
  refine q_value 31 rfl (.pointer (some ⟨S, 96, none⟩)) (by kernel_rfl) (fun w' _ => by kernel_rfl) ?_
  simp only [Act.put, List.setIfInBounds_toArray, List.set_cons_zero, List.set_cons_succ]
  refine q_value 32 rfl (num32 s.slot) (by kernel_rfl) (fun w' hC => run_op_load1 _ _ rfl _ Try.underlying22 rfl ⟨S, 96, none⟩ rfl _ ((HR.out.old hC).cell (sc_slot OK.out))) ?_
  simp only [Act.put, List.setIfInBounds_toArray, List.set_cons_zero, List.set_cons_succ]
  refine q_call 33 rfl (num32 (s.slot / 24)) 60 #[num32 s.slot] (by kernel_rfl) (fun w' _ => run_op_call _ _ _ rfl _ (by simp only [List.map_toArray, List.map_cons, List.map_nil]; rfl) Try.func60 (by kernel_rfl) (by kernel_rfl) w') (fun w' hC => (Slot.epochB_any s.slot w' OK.out.slot).mono fun e w'' h => ⟨h.1, below_step hC hC.size h.2⟩) ?_
  simp only [Act.put, List.setIfInBounds_toArray, List.set_cons_zero, List.set_cons_succ]
  refine q_value 34 rfl (.bool true) (by kernel_rfl) (fun w' _ => cmp_leq _ _ _ _ rfl .u32 (s.count : Int) ((s.slot / 24 : Nat) : Int) rfl rfl _ B4.out w') ?_
  simp only [Act.put, List.setIfInBounds_toArray, List.set_cons_zero, List.set_cons_succ]
  refine q_value 35 rfl (.bool true) (by kernel_rfl) (fun w' _ => by kernel_rfl) ?_
  simp only [Act.put, List.setIfInBounds_toArray, List.set_cons_zero, List.set_cons_succ]
  refine q_value 36 rfl (.bool true) (by kernel_rfl) (fun w' _ => by kernel_rfl) ?_
  simp only [Act.put, List.setIfInBounds_toArray, List.set_cons_zero, List.set_cons_succ]
  refine q_value 37 rfl (.pointer (some ⟨S, 98, none⟩)) (by kernel_rfl) (fun w' _ => by kernel_rfl) ?_
  simp only [Act.put, List.setIfInBounds_toArray, List.set_cons_zero, List.set_cons_succ]
  refine q_value 38 rfl (num32 s.count) (by kernel_rfl) (fun w' hC => run_op_load1 _ _ rfl _ Try.underlying22 rfl ⟨S, 98, none⟩ rfl _ ((HR.out.old hC).cell (sc_count OK.out))) ?_
  simp only [Act.put, List.setIfInBounds_toArray, List.set_cons_zero, List.set_cons_succ]
  refine q_value 39 rfl (.pointer (some ⟨S, 97, none⟩)) (by kernel_rfl) (fun w' _ => by kernel_rfl) ?_
  simp only [Act.put, List.setIfInBounds_toArray, List.set_cons_zero, List.set_cons_succ]
  refine q_value 40 rfl (num32 s.len) (by kernel_rfl) (fun w' hC => run_op_load1 _ _ rfl _ Try.underlying22 rfl ⟨S, 97, none⟩ rfl _ ((HR.out.old hC).cell (sc_len OK.out))) ?_
  simp only [Act.put, List.setIfInBounds_toArray, List.set_cons_zero, List.set_cons_succ]
  refine q_value 41 rfl (.bool false) (by kernel_rfl) (fun w' _ => cmp_lss _ _ _ _ rfl .u32 (s.count : Int) (s.len : Int) rfl rfl _ B5.out w') ?_
  simp only [Act.put, List.setIfInBounds_toArray, List.set_cons_zero, List.set_cons_succ]
  refine q_value 42 rfl (.bool false) (by kernel_rfl) (fun w' _ => by kernel_rfl) ?_
  simp only [Act.put, List.setIfInBounds_toArray, List.set_cons_zero, List.set_cons_succ]
  refine q_value 43 rfl (.bool false) (by kernel_rfl) (fun w' _ => by kernel_rfl) ?_
  simp only [Act.put, List.setIfInBounds_toArray, List.set_cons_zero, List.set_cons_succ]
  refine BigFrame.wpQuiet_skip (by kernel_rfl) ?_
  simp only [Act.put, List.setIfInBounds_toArray, List.set_cons_zero, List.set_cons_succ]
  refine BigFrame.wpQuiet_skip (by kernel_rfl) ?_
  simp only [Act.put, List.setIfInBounds_toArray, List.set_cons_zero, List.set_cons_succ]
  refine BigFrame.wpQuiet_skip (by kernel_rfl) ?_
  simp only [Act.put, List.setIfInBounds_toArray, List.set_cons_zero, List.set_cons_succ]
  refine BigFrame.wpQuiet_skip (by kernel_rfl) ?_
  simp only [Act.put, List.setIfInBounds_toArray, List.set_cons_zero, List.set_cons_succ]
  refine BigFrame.wpQuiet_skip (by kernel_rfl) ?_
  simp only [Act.put, List.setIfInBounds_toArray, List.set_cons_zero, List.set_cons_succ]
  refine q_value 49 rfl (.bool false) (by kernel_rfl) (fun w' _ => by kernel_rfl) ?_
  simp only [Act.put, List.setIfInBounds_toArray, List.set_cons_zero, List.set_cons_succ]
  refine q_value 50 rfl (.bool false) (by kernel_rfl) (fun w' _ => by kernel_rfl) ?_
  simp only [Act.put, List.setIfInBounds_toArray, List.set_cons_zero, List.set_cons_succ]
  refine BigFrame.wpQuiet_skip (by kernel_rfl) ?_
  simp only [Act.put, List.setIfInBounds_toArray, List.set_cons_zero, List.set_cons_succ]
  refine BigFrame.wpQuiet_skip (by kernel_rfl) ?_
  simp only [Act.put, List.setIfInBounds_toArray, List.set_cons_zero, List.set_cons_succ]
  refine BigFrame.wpQuiet_skip (by kernel_rfl) ?_
  simp only [Act.put, List.setIfInBounds_toArray, List.set_cons_zero, List.set_cons_succ]
  refine BigFrame.wpQuiet_skip (by kernel_rfl) ?_
  simp only [Act.put, List.setIfInBounds_toArray, List.set_cons_zero, List.set_cons_succ]
  refine q_value 55 rfl (.bool false) (by kernel_rfl) (fun w' _ => by kernel_rfl) ?_
  simp only [Act.put, List.setIfInBounds_toArray, List.set_cons_zero, List.set_cons_succ]
  refine q_value 2 rfl (.bool false) (by kernel_rfl) (fun w' _ => by kernel_rfl) ?_
  simp only [Act.put, List.setIfInBounds_toArray, List.set_cons_zero, List.set_cons_succ]
  refine wpQuiet_nil ?_
  intro w2 hC
  go_wp2_with fail
  go_ret
  exact ⟨rfl, below_step bel1 bel1.size hC⟩
set_option maxHeartbeats 8000000 in
set_option maxRecDepth 100000 in
theorem right_no6 (s : Sta) (w : World) (ok : s.Ok) (c1 : Wn.WRt s.min s.last s.counts) (c2 : s.last = s.slot / 3) (c3 : Fits s.len s.slot) (c4 : s.count ≤ s.slot / 24) (c5 : s.count < s.len) (c6 : ¬ (Fits s.next.len (s.slot % 24))) : Calls Try.prog 33 #[.agg (scs s).toArray] w fun e w' => e = .returned (.bool false) ∧ Below w.heap.size w w' := by
  have OK := Lib.hid ok
  have C1 : Hid (∀ w0, Calls Try.prog 57 #[.agg (Wn.wcs s.min s.last s.counts).toArray] w0 fun e w' => e = .returned (.bool true) ∧ Below w0.heap.size w0 w') := Lib.hid (fun w0 => decide_eq_true c1 ▸ Wn.wright_any s.min s.last s.counts w0 ok.min ok.last ok.clt ok.counts)
  have B2 : Hid (decide ((s.last : Int) = ((s.slot / 3 : Nat) : Int)) = true) := Lib.hid (decide_eq_true (by omega))
  have C3 : Hid (∀ w0, Calls Try.prog 59 #[num32 s.len, num32 s.slot] w0 fun e w' => e = .returned (.bool true) ∧ w0 = w') := Lib.hid (fun w0 => decide_eq_true c3 ▸ fits_any s.len s.slot w0 ok.len ok.slot)
  have B4 : Hid (decide ((s.count : Int) ≤ ((s.slot / 24 : Nat) : Int)) = true) := Lib.hid (decide_eq_true (by omega))
  have B5 : Hid (decide ((s.count : Int) < (s.len : Int)) = true) := Lib.hid (decide_eq_true (by omega))
  have C6 : Hid (∀ w0, Calls Try.prog 59 #[num32 s.next.len, num32 (s.slot % 24)] w0 fun e w' => e = .returned (.bool false) ∧ w0 = w') := Lib.hid (fun w0 => decide_eq_false c6 ▸ fits_any s.next.len (s.slot % 24) w0 ok.next.len (by omega))
  clear ok c1 c2 c3 c4 c5 c6
  go_enter Try.func33, Try.ntmps33
  go_wp2_with (first
    | ((with_reducible refine at_slot 1 ?_); (refine arm_box (o := ⟨some 1, _, _, _, _, _⟩) rfl _ _ rfl (scs s) rfl ?_); intro S w1 Se hw1 nw1; have c362 := hw1.cell (sc_next OK.out)))
  have HR := Lib.hid hw1
  have bel1 := nw1.below
  clear hw1 c362 Se nw1
  refine wp_region_quiet (C := fun w' => Below w1.heap.size w1 w') (by kernel_rfl) (by kernel_rfl) ((Below.refl _ _).drew) ?_
  rw [List.toList_toArray]
  refine q_value 8 rfl (.pointer (some ⟨S, 99, none⟩)) (by kernel_rfl) (fun w' _ => by kernel_rfl) ?_
  simp only [Act.put, List.setIfInBounds_toArray, List.set_cons_zero, List.set_cons_succ]
  refine q_value 9 rfl (.agg (Wn.wcs s.min s.last s.counts).toArray) (by kernel_rfl) (fun w' hC => run_op_load _ _ rfl S 99 rfl _ ((s_win OK.out).range (HR.out.old hC)) (Wn.sz_win OK.out.counts)) ?_
  simp only [Act.put, List.setIfInBounds_toArray, List.set_cons_zero, List.set_cons_succ]
  refine q_call 10 rfl (.bool true) 57 #[.agg (Wn.wcs s.min s.last s.counts).toArray] (by kernel_rfl) (fun w' _ => run_op_call _ _ _ rfl _ (by simp only [List.map_toArray, List.map_cons, List.map_nil]; rfl) Try.func57 (by kernel_rfl) (by kernel_rfl) w') (fun w' hC => (C1.out w').mono fun e w'' h => ⟨h.1, below_step hC hC.size h.2⟩) ?_
  simp only [Act.put, List.setIfInBounds_toArray, List.set_cons_zero, List.set_cons_succ]
  refine q_value 11 rfl (.bool true) (by kernel_rfl) (fun w' _ => by kernel_rfl) ?_
  simp only [Act.put, List.setIfInBounds_toArray, List.set_cons_zero, List.set_cons_succ]
  refine q_value 12 rfl (.pointer (some ⟨S, 99, none⟩)) (by kernel_rfl) (fun w' _ => by kernel_rfl) ?_
  simp only [Act.put, List.setIfInBounds_toArray, List.set_cons_zero, List.set_cons_succ]
  refine q_value 13 rfl (.pointer (some ⟨S, 100, none⟩)) (by kernel_rfl) (fun w' _ => by kernel_rfl) ?_
  simp only [Act.put, List.setIfInBounds_toArray, List.set_cons_zero, List.set_cons_succ]
  refine q_value 14 rfl (.pointer (some ⟨S, 100, none⟩)) (by kernel_rfl) (fun w' _ => by kernel_rfl) ?_
  simp only [Act.put, List.setIfInBounds_toArray, List.set_cons_zero, List.set_cons_succ]
  refine q_value 15 rfl (num32 s.last) (by kernel_rfl) (fun w' hC => run_op_load1 _ _ rfl _ Try.underlying22 rfl ⟨S, 100, none⟩ rfl _ ((HR.out.old hC).cell (sc_last OK.out))) ?_
  simp only [Act.put, List.setIfInBounds_toArray, List.set_cons_zero, List.set_cons_succ]
  refine q_value 16 rfl (.pointer (some ⟨S, 96, none⟩)) (by kernel_rfl) (fun w' _ => by kernel_rfl) ?_
  simp only [Act.put, List.setIfInBounds_toArray, List.set_cons_zero, List.set_cons_succ]
  refine q_value 17 rfl (num32 s.slot) (by kernel_rfl) (fun w' hC => run_op_load1 _ _ rfl _ Try.underlying22 rfl ⟨S, 96, none⟩ rfl _ ((HR.out.old hC).cell (sc_slot OK.out))) ?_
  simp only [Act.put, List.setIfInBounds_toArray, List.set_cons_zero, List.set_cons_succ]
  refine q_call 18 rfl (num32 (s.slot / 3)) 58 #[num32 s.slot] (by kernel_rfl) (fun w' _ => run_op_call _ _ _ rfl _ (by simp only [List.map_toArray, List.map_cons, List.map_nil]; rfl) Try.func58 (by kernel_rfl) (by kernel_rfl) w') (fun w' hC => (Rg.subB_any s.slot w' OK.out.slot).mono fun e w'' h => ⟨h.1, below_step hC hC.size h.2⟩) ?_
  simp only [Act.put, List.setIfInBounds_toArray, List.set_cons_zero, List.set_cons_succ]
  refine q_value 19 rfl (.bool true) (by kernel_rfl) (fun w' _ => cmp_eql _ _ .u32 (by kernel_rfl) _ _ rfl .u32 (s.last : Int) ((s.slot / 3 : Nat) : Int) rfl rfl _ B2.out w') ?_
  simp only [Act.put, List.setIfInBounds_toArray, List.set_cons_zero, List.set_cons_succ]
  refine q_value 20 rfl (.bool true) (by kernel_rfl) (fun w' _ => by kernel_rfl) ?_
  simp only [Act.put, List.setIfInBounds_toArray, List.set_cons_zero, List.set_cons_succ]
  refine q_value 21 rfl (.bool true) (by kernel_rfl) (fun w' _ => by kernel_rfl) ?_
  simp only [Act.put, List.setIfInBounds_toArray, List.set_cons_zero, List.set_cons_succ]
  refine q_value 22 rfl (.pointer (some ⟨S, 97, none⟩)) (by kernel_rfl) (fun w' _ => by kernel_rfl) ?_
  simp only [Act.put, List.setIfInBounds_toArray, List.set_cons_zero, List.set_cons_succ]
  refine q_value 23 rfl (num32 s.len) (by kernel_rfl) (fun w' hC => run_op_load1 _ _ rfl _ Try.underlying22 rfl ⟨S, 97, none⟩ rfl _ ((HR.out.old hC).cell (sc_len OK.out))) ?_
  simp only [Act.put, List.setIfInBounds_toArray, List.set_cons_zero, List.set_cons_succ]
  refine q_value 24 rfl (.pointer (some ⟨S, 96, none⟩)) (by kernel_rfl) (fun w' _ => by kernel_rfl) ?_
  simp only [Act.put, List.setIfInBounds_toArray, List.set_cons_zero, List.set_cons_succ]
  refine q_value 25 rfl (num32 s.slot) (by kernel_rfl) (fun w' hC => run_op_load1 _ _ rfl _ Try.underlying22 rfl ⟨S, 96, none⟩ rfl _ ((HR.out.old hC).cell (sc_slot OK.out))) ?_
  simp only [Act.put, List.setIfInBounds_toArray, List.set_cons_zero, List.set_cons_succ]
  refine q_call 26 rfl (.bool true) 59 #[num32 s.len, num32 s.slot] (by kernel_rfl) (fun w' _ => run_op_call _ _ _ rfl _ (by simp only [List.map_toArray, List.map_cons, List.map_nil]; rfl) Try.func59 (by kernel_rfl) (by kernel_rfl) w') (fun w' hC => (C3.out w').mono fun e w'' h => ⟨h.1, h.2 ▸ hC⟩) ?_
  simp only [Act.put, List.setIfInBounds_toArray, List.set_cons_zero, List.set_cons_succ]
  refine q_value 27 rfl (.bool true) (by kernel_rfl) (fun w' _ => by kernel_rfl) ?_
  simp only [Act.put, List.setIfInBounds_toArray, List.set_cons_zero, List.set_cons_succ]
  refine q_value 28 rfl (.bool true) (by kernel_rfl) (fun w' _ => by kernel_rfl) ?_
  simp only [Act.put, List.setIfInBounds_toArray, List.set_cons_zero, List.set_cons_succ]
  refine q_value 29 rfl (.pointer (some ⟨S, 98, none⟩)) (by kernel_rfl) (fun w' _ => by kernel_rfl) ?_
  simp only [Act.put, List.setIfInBounds_toArray, List.set_cons_zero, List.set_cons_succ]
  refine q_value 30 rfl (num32 s.count) (by kernel_rfl) (fun w' hC => run_op_load1 _ _ rfl _ Try.underlying22 rfl ⟨S, 98, none⟩ rfl _ ((HR.out.old hC).cell (sc_count OK.out))) ?_
  simp only [Act.put, List.setIfInBounds_toArray, List.set_cons_zero, List.set_cons_succ]
  refine q_value 31 rfl (.pointer (some ⟨S, 96, none⟩)) (by kernel_rfl) (fun w' _ => by kernel_rfl) ?_
  simp only [Act.put, List.setIfInBounds_toArray, List.set_cons_zero, List.set_cons_succ]
  refine q_value 32 rfl (num32 s.slot) (by kernel_rfl) (fun w' hC => run_op_load1 _ _ rfl _ Try.underlying22 rfl ⟨S, 96, none⟩ rfl _ ((HR.out.old hC).cell (sc_slot OK.out))) ?_
  simp only [Act.put, List.setIfInBounds_toArray, List.set_cons_zero, List.set_cons_succ]
  refine q_call 33 rfl (num32 (s.slot / 24)) 60 #[num32 s.slot] (by kernel_rfl) (fun w' _ => run_op_call _ _ _ rfl _ (by simp only [List.map_toArray, List.map_cons, List.map_nil]; rfl) Try.func60 (by kernel_rfl) (by kernel_rfl) w') (fun w' hC => (Slot.epochB_any s.slot w' OK.out.slot).mono fun e w'' h => ⟨h.1, below_step hC hC.size h.2⟩) ?_
  simp only [Act.put, List.setIfInBounds_toArray, List.set_cons_zero, List.set_cons_succ]
  refine q_value 34 rfl (.bool true) (by kernel_rfl) (fun w' _ => cmp_leq _ _ _ _ rfl .u32 (s.count : Int) ((s.slot / 24 : Nat) : Int) rfl rfl _ B4.out w') ?_
  simp only [Act.put, List.setIfInBounds_toArray, List.set_cons_zero, List.set_cons_succ]
  refine q_value 35 rfl (.bool true) (by kernel_rfl) (fun w' _ => by kernel_rfl) ?_
  simp only [Act.put, List.setIfInBounds_toArray, List.set_cons_zero, List.set_cons_succ]
  refine q_value 36 rfl (.bool true) (by kernel_rfl) (fun w' _ => by kernel_rfl) ?_
  simp only [Act.put, List.setIfInBounds_toArray, List.set_cons_zero, List.set_cons_succ]
  refine q_value 37 rfl (.pointer (some ⟨S, 98, none⟩)) (by kernel_rfl) (fun w' _ => by kernel_rfl) ?_
  simp only [Act.put, List.setIfInBounds_toArray, List.set_cons_zero, List.set_cons_succ]
  refine q_value 38 rfl (num32 s.count) (by kernel_rfl) (fun w' hC => run_op_load1 _ _ rfl _ Try.underlying22 rfl ⟨S, 98, none⟩ rfl _ ((HR.out.old hC).cell (sc_count OK.out))) ?_
  simp only [Act.put, List.setIfInBounds_toArray, List.set_cons_zero, List.set_cons_succ]
  refine q_value 39 rfl (.pointer (some ⟨S, 97, none⟩)) (by kernel_rfl) (fun w' _ => by kernel_rfl) ?_
  simp only [Act.put, List.setIfInBounds_toArray, List.set_cons_zero, List.set_cons_succ]
  refine q_value 40 rfl (num32 s.len) (by kernel_rfl) (fun w' hC => run_op_load1 _ _ rfl _ Try.underlying22 rfl ⟨S, 97, none⟩ rfl _ ((HR.out.old hC).cell (sc_len OK.out))) ?_
  simp only [Act.put, List.setIfInBounds_toArray, List.set_cons_zero, List.set_cons_succ]
  refine q_value 41 rfl (.bool true) (by kernel_rfl) (fun w' _ => cmp_lss _ _ _ _ rfl .u32 (s.count : Int) (s.len : Int) rfl rfl _ B5.out w') ?_
  simp only [Act.put, List.setIfInBounds_toArray, List.set_cons_zero, List.set_cons_succ]
  refine q_value 42 rfl (.bool true) (by kernel_rfl) (fun w' _ => by kernel_rfl) ?_
  simp only [Act.put, List.setIfInBounds_toArray, List.set_cons_zero, List.set_cons_succ]
  refine q_value 43 rfl (.bool true) (by kernel_rfl) (fun w' _ => by kernel_rfl) ?_
  simp only [Act.put, List.setIfInBounds_toArray, List.set_cons_zero, List.set_cons_succ]
  refine q_value 44 rfl (num32 s.next.len) (by kernel_rfl) (fun w' _ => by kernel_rfl) ?_
  simp only [Act.put, List.setIfInBounds_toArray, List.set_cons_zero, List.set_cons_succ]
  refine q_value 45 rfl (.pointer (some ⟨S, 96, none⟩)) (by kernel_rfl) (fun w' _ => by kernel_rfl) ?_
  simp only [Act.put, List.setIfInBounds_toArray, List.set_cons_zero, List.set_cons_succ]
  refine q_value 46 rfl (num32 s.slot) (by kernel_rfl) (fun w' hC => run_op_load1 _ _ rfl _ Try.underlying22 rfl ⟨S, 96, none⟩ rfl _ ((HR.out.old hC).cell (sc_slot OK.out))) ?_
  simp only [Act.put, List.setIfInBounds_toArray, List.set_cons_zero, List.set_cons_succ]
  refine q_call 47 rfl (num32 (s.slot % 24)) 61 #[num32 s.slot] (by kernel_rfl) (fun w' _ => run_op_call _ _ _ rfl _ (by simp only [List.map_toArray, List.map_cons, List.map_nil]; rfl) Try.func61 (by kernel_rfl) (by kernel_rfl) w') (fun w' hC => (Slot.placeB_any s.slot w' OK.out.slot).mono fun e w'' h => ⟨h.1, below_step hC hC.size h.2⟩) ?_
  simp only [Act.put, List.setIfInBounds_toArray, List.set_cons_zero, List.set_cons_succ]
  refine q_call 48 rfl (.bool false) 59 #[num32 s.next.len, num32 (s.slot % 24)] (by kernel_rfl) (fun w' _ => run_op_call _ _ _ rfl _ (by simp only [List.map_toArray, List.map_cons, List.map_nil]; rfl) Try.func59 (by kernel_rfl) (by kernel_rfl) w') (fun w' hC => (C6.out w').mono fun e w'' h => ⟨h.1, h.2 ▸ hC⟩) ?_
  simp only [Act.put, List.setIfInBounds_toArray, List.set_cons_zero, List.set_cons_succ]
  refine q_value 49 rfl (.bool false) (by kernel_rfl) (fun w' _ => by kernel_rfl) ?_
  simp only [Act.put, List.setIfInBounds_toArray, List.set_cons_zero, List.set_cons_succ]
  refine q_value 50 rfl (.bool false) (by kernel_rfl) (fun w' _ => by kernel_rfl) ?_
  simp only [Act.put, List.setIfInBounds_toArray, List.set_cons_zero, List.set_cons_succ]
  refine BigFrame.wpQuiet_skip (by kernel_rfl) ?_
  simp only [Act.put, List.setIfInBounds_toArray, List.set_cons_zero, List.set_cons_succ]
  refine BigFrame.wpQuiet_skip (by kernel_rfl) ?_
  simp only [Act.put, List.setIfInBounds_toArray, List.set_cons_zero, List.set_cons_succ]
  refine BigFrame.wpQuiet_skip (by kernel_rfl) ?_
  simp only [Act.put, List.setIfInBounds_toArray, List.set_cons_zero, List.set_cons_succ]
  refine BigFrame.wpQuiet_skip (by kernel_rfl) ?_
  simp only [Act.put, List.setIfInBounds_toArray, List.set_cons_zero, List.set_cons_succ]
  refine q_value 55 rfl (.bool false) (by kernel_rfl) (fun w' _ => by kernel_rfl) ?_
  simp only [Act.put, List.setIfInBounds_toArray, List.set_cons_zero, List.set_cons_succ]
  refine q_value 2 rfl (.bool false) (by kernel_rfl) (fun w' _ => by kernel_rfl) ?_
  simp only [Act.put, List.setIfInBounds_toArray, List.set_cons_zero, List.set_cons_succ]
  refine wpQuiet_nil ?_
  intro w2 hC
  go_wp2_with fail
  go_ret
  exact ⟨rfl, below_step bel1 bel1.size hC⟩
set_option maxHeartbeats 8000000 in
set_option maxRecDepth 100000 in
theorem right_no7 (s : Sta) (w : World) (ok : s.Ok) (c1 : Wn.WRt s.min s.last s.counts) (c2 : s.last = s.slot / 3) (c3 : Fits s.len s.slot) (c4 : s.count ≤ s.slot / 24) (c5 : s.count < s.len) (c6 : Fits s.next.len (s.slot % 24)) (c7 : ¬ (s.next.len ≤ s.len)) : Calls Try.prog 33 #[.agg (scs s).toArray] w fun e w' => e = .returned (.bool false) ∧ Below w.heap.size w w' := by
  have OK := Lib.hid ok
  have C1 : Hid (∀ w0, Calls Try.prog 57 #[.agg (Wn.wcs s.min s.last s.counts).toArray] w0 fun e w' => e = .returned (.bool true) ∧ Below w0.heap.size w0 w') := Lib.hid (fun w0 => decide_eq_true c1 ▸ Wn.wright_any s.min s.last s.counts w0 ok.min ok.last ok.clt ok.counts)
  have B2 : Hid (decide ((s.last : Int) = ((s.slot / 3 : Nat) : Int)) = true) := Lib.hid (decide_eq_true (by omega))
  have C3 : Hid (∀ w0, Calls Try.prog 59 #[num32 s.len, num32 s.slot] w0 fun e w' => e = .returned (.bool true) ∧ w0 = w') := Lib.hid (fun w0 => decide_eq_true c3 ▸ fits_any s.len s.slot w0 ok.len ok.slot)
  have B4 : Hid (decide ((s.count : Int) ≤ ((s.slot / 24 : Nat) : Int)) = true) := Lib.hid (decide_eq_true (by omega))
  have B5 : Hid (decide ((s.count : Int) < (s.len : Int)) = true) := Lib.hid (decide_eq_true (by omega))
  have C6 : Hid (∀ w0, Calls Try.prog 59 #[num32 s.next.len, num32 (s.slot % 24)] w0 fun e w' => e = .returned (.bool true) ∧ w0 = w') := Lib.hid (fun w0 => decide_eq_true c6 ▸ fits_any s.next.len (s.slot % 24) w0 ok.next.len (by omega))
  have B7 : Hid (decide ((s.next.len : Int) ≤ (s.len : Int)) = false) := Lib.hid (decide_eq_false (by omega))
  clear ok c1 c2 c3 c4 c5 c6 c7
  go_enter Try.func33, Try.ntmps33
  go_wp2_with (first
    | ((with_reducible refine at_slot 1 ?_); (refine arm_box (o := ⟨some 1, _, _, _, _, _⟩) rfl _ _ rfl (scs s) rfl ?_); intro S w1 Se hw1 nw1; have c362 := hw1.cell (sc_next OK.out)))
  have HR := Lib.hid hw1
  have bel1 := nw1.below
  clear hw1 c362 Se nw1
  refine wp_region_quiet (C := fun w' => Below w1.heap.size w1 w') (by kernel_rfl) (by kernel_rfl) ((Below.refl _ _).drew) ?_
  rw [List.toList_toArray]
  refine q_value 8 rfl (.pointer (some ⟨S, 99, none⟩)) (by kernel_rfl) (fun w' _ => by kernel_rfl) ?_
  simp only [Act.put, List.setIfInBounds_toArray, List.set_cons_zero, List.set_cons_succ]
  refine q_value 9 rfl (.agg (Wn.wcs s.min s.last s.counts).toArray) (by kernel_rfl) (fun w' hC => run_op_load _ _ rfl S 99 rfl _ ((s_win OK.out).range (HR.out.old hC)) (Wn.sz_win OK.out.counts)) ?_
  simp only [Act.put, List.setIfInBounds_toArray, List.set_cons_zero, List.set_cons_succ]
  refine q_call 10 rfl (.bool true) 57 #[.agg (Wn.wcs s.min s.last s.counts).toArray] (by kernel_rfl) (fun w' _ => run_op_call _ _ _ rfl _ (by simp only [List.map_toArray, List.map_cons, List.map_nil]; rfl) Try.func57 (by kernel_rfl) (by kernel_rfl) w') (fun w' hC => (C1.out w').mono fun e w'' h => ⟨h.1, below_step hC hC.size h.2⟩) ?_
  simp only [Act.put, List.setIfInBounds_toArray, List.set_cons_zero, List.set_cons_succ]
  refine q_value 11 rfl (.bool true) (by kernel_rfl) (fun w' _ => by kernel_rfl) ?_
  simp only [Act.put, List.setIfInBounds_toArray, List.set_cons_zero, List.set_cons_succ]
  refine q_value 12 rfl (.pointer (some ⟨S, 99, none⟩)) (by kernel_rfl) (fun w' _ => by kernel_rfl) ?_
  simp only [Act.put, List.setIfInBounds_toArray, List.set_cons_zero, List.set_cons_succ]
  refine q_value 13 rfl (.pointer (some ⟨S, 100, none⟩)) (by kernel_rfl) (fun w' _ => by kernel_rfl) ?_
  simp only [Act.put, List.setIfInBounds_toArray, List.set_cons_zero, List.set_cons_succ]
  refine q_value 14 rfl (.pointer (some ⟨S, 100, none⟩)) (by kernel_rfl) (fun w' _ => by kernel_rfl) ?_
  simp only [Act.put, List.setIfInBounds_toArray, List.set_cons_zero, List.set_cons_succ]
  refine q_value 15 rfl (num32 s.last) (by kernel_rfl) (fun w' hC => run_op_load1 _ _ rfl _ Try.underlying22 rfl ⟨S, 100, none⟩ rfl _ ((HR.out.old hC).cell (sc_last OK.out))) ?_
  simp only [Act.put, List.setIfInBounds_toArray, List.set_cons_zero, List.set_cons_succ]
  refine q_value 16 rfl (.pointer (some ⟨S, 96, none⟩)) (by kernel_rfl) (fun w' _ => by kernel_rfl) ?_
  simp only [Act.put, List.setIfInBounds_toArray, List.set_cons_zero, List.set_cons_succ]
  refine q_value 17 rfl (num32 s.slot) (by kernel_rfl) (fun w' hC => run_op_load1 _ _ rfl _ Try.underlying22 rfl ⟨S, 96, none⟩ rfl _ ((HR.out.old hC).cell (sc_slot OK.out))) ?_
  simp only [Act.put, List.setIfInBounds_toArray, List.set_cons_zero, List.set_cons_succ]
  refine q_call 18 rfl (num32 (s.slot / 3)) 58 #[num32 s.slot] (by kernel_rfl) (fun w' _ => run_op_call _ _ _ rfl _ (by simp only [List.map_toArray, List.map_cons, List.map_nil]; rfl) Try.func58 (by kernel_rfl) (by kernel_rfl) w') (fun w' hC => (Rg.subB_any s.slot w' OK.out.slot).mono fun e w'' h => ⟨h.1, below_step hC hC.size h.2⟩) ?_
  simp only [Act.put, List.setIfInBounds_toArray, List.set_cons_zero, List.set_cons_succ]
  refine q_value 19 rfl (.bool true) (by kernel_rfl) (fun w' _ => cmp_eql _ _ .u32 (by kernel_rfl) _ _ rfl .u32 (s.last : Int) ((s.slot / 3 : Nat) : Int) rfl rfl _ B2.out w') ?_
  simp only [Act.put, List.setIfInBounds_toArray, List.set_cons_zero, List.set_cons_succ]
  refine q_value 20 rfl (.bool true) (by kernel_rfl) (fun w' _ => by kernel_rfl) ?_
  simp only [Act.put, List.setIfInBounds_toArray, List.set_cons_zero, List.set_cons_succ]
  refine q_value 21 rfl (.bool true) (by kernel_rfl) (fun w' _ => by kernel_rfl) ?_
  simp only [Act.put, List.setIfInBounds_toArray, List.set_cons_zero, List.set_cons_succ]
  refine q_value 22 rfl (.pointer (some ⟨S, 97, none⟩)) (by kernel_rfl) (fun w' _ => by kernel_rfl) ?_
  simp only [Act.put, List.setIfInBounds_toArray, List.set_cons_zero, List.set_cons_succ]
  refine q_value 23 rfl (num32 s.len) (by kernel_rfl) (fun w' hC => run_op_load1 _ _ rfl _ Try.underlying22 rfl ⟨S, 97, none⟩ rfl _ ((HR.out.old hC).cell (sc_len OK.out))) ?_
  simp only [Act.put, List.setIfInBounds_toArray, List.set_cons_zero, List.set_cons_succ]
  refine q_value 24 rfl (.pointer (some ⟨S, 96, none⟩)) (by kernel_rfl) (fun w' _ => by kernel_rfl) ?_
  simp only [Act.put, List.setIfInBounds_toArray, List.set_cons_zero, List.set_cons_succ]
  refine q_value 25 rfl (num32 s.slot) (by kernel_rfl) (fun w' hC => run_op_load1 _ _ rfl _ Try.underlying22 rfl ⟨S, 96, none⟩ rfl _ ((HR.out.old hC).cell (sc_slot OK.out))) ?_
  simp only [Act.put, List.setIfInBounds_toArray, List.set_cons_zero, List.set_cons_succ]
  refine q_call 26 rfl (.bool true) 59 #[num32 s.len, num32 s.slot] (by kernel_rfl) (fun w' _ => run_op_call _ _ _ rfl _ (by simp only [List.map_toArray, List.map_cons, List.map_nil]; rfl) Try.func59 (by kernel_rfl) (by kernel_rfl) w') (fun w' hC => (C3.out w').mono fun e w'' h => ⟨h.1, h.2 ▸ hC⟩) ?_
  simp only [Act.put, List.setIfInBounds_toArray, List.set_cons_zero, List.set_cons_succ]
  refine q_value 27 rfl (.bool true) (by kernel_rfl) (fun w' _ => by kernel_rfl) ?_
  simp only [Act.put, List.setIfInBounds_toArray, List.set_cons_zero, List.set_cons_succ]
  refine q_value 28 rfl (.bool true) (by kernel_rfl) (fun w' _ => by kernel_rfl) ?_
  simp only [Act.put, List.setIfInBounds_toArray, List.set_cons_zero, List.set_cons_succ]
  refine q_value 29 rfl (.pointer (some ⟨S, 98, none⟩)) (by kernel_rfl) (fun w' _ => by kernel_rfl) ?_
  simp only [Act.put, List.setIfInBounds_toArray, List.set_cons_zero, List.set_cons_succ]
  refine q_value 30 rfl (num32 s.count) (by kernel_rfl) (fun w' hC => run_op_load1 _ _ rfl _ Try.underlying22 rfl ⟨S, 98, none⟩ rfl _ ((HR.out.old hC).cell (sc_count OK.out))) ?_
  simp only [Act.put, List.setIfInBounds_toArray, List.set_cons_zero, List.set_cons_succ]
  refine q_value 31 rfl (.pointer (some ⟨S, 96, none⟩)) (by kernel_rfl) (fun w' _ => by kernel_rfl) ?_
  simp only [Act.put, List.setIfInBounds_toArray, List.set_cons_zero, List.set_cons_succ]
  refine q_value 32 rfl (num32 s.slot) (by kernel_rfl) (fun w' hC => run_op_load1 _ _ rfl _ Try.underlying22 rfl ⟨S, 96, none⟩ rfl _ ((HR.out.old hC).cell (sc_slot OK.out))) ?_
  simp only [Act.put, List.setIfInBounds_toArray, List.set_cons_zero, List.set_cons_succ]
  refine q_call 33 rfl (num32 (s.slot / 24)) 60 #[num32 s.slot] (by kernel_rfl) (fun w' _ => run_op_call _ _ _ rfl _ (by simp only [List.map_toArray, List.map_cons, List.map_nil]; rfl) Try.func60 (by kernel_rfl) (by kernel_rfl) w') (fun w' hC => (Slot.epochB_any s.slot w' OK.out.slot).mono fun e w'' h => ⟨h.1, below_step hC hC.size h.2⟩) ?_
  simp only [Act.put, List.setIfInBounds_toArray, List.set_cons_zero, List.set_cons_succ]
  refine q_value 34 rfl (.bool true) (by kernel_rfl) (fun w' _ => cmp_leq _ _ _ _ rfl .u32 (s.count : Int) ((s.slot / 24 : Nat) : Int) rfl rfl _ B4.out w') ?_
  simp only [Act.put, List.setIfInBounds_toArray, List.set_cons_zero, List.set_cons_succ]
  refine q_value 35 rfl (.bool true) (by kernel_rfl) (fun w' _ => by kernel_rfl) ?_
  simp only [Act.put, List.setIfInBounds_toArray, List.set_cons_zero, List.set_cons_succ]
  refine q_value 36 rfl (.bool true) (by kernel_rfl) (fun w' _ => by kernel_rfl) ?_
  simp only [Act.put, List.setIfInBounds_toArray, List.set_cons_zero, List.set_cons_succ]
  refine q_value 37 rfl (.pointer (some ⟨S, 98, none⟩)) (by kernel_rfl) (fun w' _ => by kernel_rfl) ?_
  simp only [Act.put, List.setIfInBounds_toArray, List.set_cons_zero, List.set_cons_succ]
  refine q_value 38 rfl (num32 s.count) (by kernel_rfl) (fun w' hC => run_op_load1 _ _ rfl _ Try.underlying22 rfl ⟨S, 98, none⟩ rfl _ ((HR.out.old hC).cell (sc_count OK.out))) ?_
  simp only [Act.put, List.setIfInBounds_toArray, List.set_cons_zero, List.set_cons_succ]
  refine q_value 39 rfl (.pointer (some ⟨S, 97, none⟩)) (by kernel_rfl) (fun w' _ => by kernel_rfl) ?_
  simp only [Act.put, List.setIfInBounds_toArray, List.set_cons_zero, List.set_cons_succ]
  refine q_value 40 rfl (num32 s.len) (by kernel_rfl) (fun w' hC => run_op_load1 _ _ rfl _ Try.underlying22 rfl ⟨S, 97, none⟩ rfl _ ((HR.out.old hC).cell (sc_len OK.out))) ?_
  simp only [Act.put, List.setIfInBounds_toArray, List.set_cons_zero, List.set_cons_succ]
  refine q_value 41 rfl (.bool true) (by kernel_rfl) (fun w' _ => cmp_lss _ _ _ _ rfl .u32 (s.count : Int) (s.len : Int) rfl rfl _ B5.out w') ?_
  simp only [Act.put, List.setIfInBounds_toArray, List.set_cons_zero, List.set_cons_succ]
  refine q_value 42 rfl (.bool true) (by kernel_rfl) (fun w' _ => by kernel_rfl) ?_
  simp only [Act.put, List.setIfInBounds_toArray, List.set_cons_zero, List.set_cons_succ]
  refine q_value 43 rfl (.bool true) (by kernel_rfl) (fun w' _ => by kernel_rfl) ?_
  simp only [Act.put, List.setIfInBounds_toArray, List.set_cons_zero, List.set_cons_succ]
  refine q_value 44 rfl (num32 s.next.len) (by kernel_rfl) (fun w' _ => by kernel_rfl) ?_
  simp only [Act.put, List.setIfInBounds_toArray, List.set_cons_zero, List.set_cons_succ]
  refine q_value 45 rfl (.pointer (some ⟨S, 96, none⟩)) (by kernel_rfl) (fun w' _ => by kernel_rfl) ?_
  simp only [Act.put, List.setIfInBounds_toArray, List.set_cons_zero, List.set_cons_succ]
  refine q_value 46 rfl (num32 s.slot) (by kernel_rfl) (fun w' hC => run_op_load1 _ _ rfl _ Try.underlying22 rfl ⟨S, 96, none⟩ rfl _ ((HR.out.old hC).cell (sc_slot OK.out))) ?_
  simp only [Act.put, List.setIfInBounds_toArray, List.set_cons_zero, List.set_cons_succ]
  refine q_call 47 rfl (num32 (s.slot % 24)) 61 #[num32 s.slot] (by kernel_rfl) (fun w' _ => run_op_call _ _ _ rfl _ (by simp only [List.map_toArray, List.map_cons, List.map_nil]; rfl) Try.func61 (by kernel_rfl) (by kernel_rfl) w') (fun w' hC => (Slot.placeB_any s.slot w' OK.out.slot).mono fun e w'' h => ⟨h.1, below_step hC hC.size h.2⟩) ?_
  simp only [Act.put, List.setIfInBounds_toArray, List.set_cons_zero, List.set_cons_succ]
  refine q_call 48 rfl (.bool true) 59 #[num32 s.next.len, num32 (s.slot % 24)] (by kernel_rfl) (fun w' _ => run_op_call _ _ _ rfl _ (by simp only [List.map_toArray, List.map_cons, List.map_nil]; rfl) Try.func59 (by kernel_rfl) (by kernel_rfl) w') (fun w' hC => (C6.out w').mono fun e w'' h => ⟨h.1, h.2 ▸ hC⟩) ?_
  simp only [Act.put, List.setIfInBounds_toArray, List.set_cons_zero, List.set_cons_succ]
  refine q_value 49 rfl (.bool true) (by kernel_rfl) (fun w' _ => by kernel_rfl) ?_
  simp only [Act.put, List.setIfInBounds_toArray, List.set_cons_zero, List.set_cons_succ]
  refine q_value 50 rfl (.bool true) (by kernel_rfl) (fun w' _ => by kernel_rfl) ?_
  simp only [Act.put, List.setIfInBounds_toArray, List.set_cons_zero, List.set_cons_succ]
  refine q_value 51 rfl (num32 s.next.len) (by kernel_rfl) (fun w' _ => by kernel_rfl) ?_
  simp only [Act.put, List.setIfInBounds_toArray, List.set_cons_zero, List.set_cons_succ]
  refine q_value 52 rfl (.pointer (some ⟨S, 97, none⟩)) (by kernel_rfl) (fun w' _ => by kernel_rfl) ?_
  simp only [Act.put, List.setIfInBounds_toArray, List.set_cons_zero, List.set_cons_succ]
  refine q_value 53 rfl (num32 s.len) (by kernel_rfl) (fun w' hC => run_op_load1 _ _ rfl _ Try.underlying22 rfl ⟨S, 97, none⟩ rfl _ ((HR.out.old hC).cell (sc_len OK.out))) ?_
  simp only [Act.put, List.setIfInBounds_toArray, List.set_cons_zero, List.set_cons_succ]
  refine q_value 54 rfl (.bool false) (by kernel_rfl) (fun w' _ => cmp_leq _ _ _ _ rfl .u32 (s.next.len : Int) (s.len : Int) rfl rfl _ B7.out w') ?_
  simp only [Act.put, List.setIfInBounds_toArray, List.set_cons_zero, List.set_cons_succ]
  refine q_value 55 rfl (.bool false) (by kernel_rfl) (fun w' _ => by kernel_rfl) ?_
  simp only [Act.put, List.setIfInBounds_toArray, List.set_cons_zero, List.set_cons_succ]
  refine q_value 2 rfl (.bool false) (by kernel_rfl) (fun w' _ => by kernel_rfl) ?_
  simp only [Act.put, List.setIfInBounds_toArray, List.set_cons_zero, List.set_cons_succ]
  refine wpQuiet_nil ?_
  intro w2 hC
  go_wp2_with fail
  go_ret
  exact ⟨rfl, below_step bel1 bel1.size hC⟩
set_option maxHeartbeats 8000000 in
set_option maxRecDepth 100000 in
theorem right_all (s : Sta) (w : World) (ok : s.Ok) (c1 : Wn.WRt s.min s.last s.counts) (c2 : s.last = s.slot / 3) (c3 : Fits s.len s.slot) (c4 : s.count ≤ s.slot / 24) (c5 : s.count < s.len) (c6 : Fits s.next.len (s.slot % 24)) (c7 : s.next.len ≤ s.len) : Calls Try.prog 33 #[.agg (scs s).toArray] w fun e w' => e = .returned (.bool true) ∧ Below w.heap.size w w' := by
  have OK := Lib.hid ok
  have C1 : Hid (∀ w0, Calls Try.prog 57 #[.agg (Wn.wcs s.min s.last s.counts).toArray] w0 fun e w' => e = .returned (.bool true) ∧ Below w0.heap.size w0 w') := Lib.hid (fun w0 => decide_eq_true c1 ▸ Wn.wright_any s.min s.last s.counts w0 ok.min ok.last ok.clt ok.counts)
  have B2 : Hid (decide ((s.last : Int) = ((s.slot / 3 : Nat) : Int)) = true) := Lib.hid (decide_eq_true (by omega))
  have C3 : Hid (∀ w0, Calls Try.prog 59 #[num32 s.len, num32 s.slot] w0 fun e w' => e = .returned (.bool true) ∧ w0 = w') := Lib.hid (fun w0 => decide_eq_true c3 ▸ fits_any s.len s.slot w0 ok.len ok.slot)
  have B4 : Hid (decide ((s.count : Int) ≤ ((s.slot / 24 : Nat) : Int)) = true) := Lib.hid (decide_eq_true (by omega))
  have B5 : Hid (decide ((s.count : Int) < (s.len : Int)) = true) := Lib.hid (decide_eq_true (by omega))
  have C6 : Hid (∀ w0, Calls Try.prog 59 #[num32 s.next.len, num32 (s.slot % 24)] w0 fun e w' => e = .returned (.bool true) ∧ w0 = w') := Lib.hid (fun w0 => decide_eq_true c6 ▸ fits_any s.next.len (s.slot % 24) w0 ok.next.len (by omega))
  have B7 : Hid (decide ((s.next.len : Int) ≤ (s.len : Int)) = true) := Lib.hid (decide_eq_true (by omega))
  clear ok c1 c2 c3 c4 c5 c6 c7
  go_enter Try.func33, Try.ntmps33
  go_wp2_with (first
    | ((with_reducible refine at_slot 1 ?_); (refine arm_box (o := ⟨some 1, _, _, _, _, _⟩) rfl _ _ rfl (scs s) rfl ?_); intro S w1 Se hw1 nw1; have c362 := hw1.cell (sc_next OK.out)))
  have HR := Lib.hid hw1
  have bel1 := nw1.below
  clear hw1 c362 Se nw1
  refine wp_region_quiet (C := fun w' => Below w1.heap.size w1 w') (by kernel_rfl) (by kernel_rfl) ((Below.refl _ _).drew) ?_
  rw [List.toList_toArray]
  refine q_value 8 rfl (.pointer (some ⟨S, 99, none⟩)) (by kernel_rfl) (fun w' _ => by kernel_rfl) ?_
  simp only [Act.put, List.setIfInBounds_toArray, List.set_cons_zero, List.set_cons_succ]
  refine q_value 9 rfl (.agg (Wn.wcs s.min s.last s.counts).toArray) (by kernel_rfl) (fun w' hC => run_op_load _ _ rfl S 99 rfl _ ((s_win OK.out).range (HR.out.old hC)) (Wn.sz_win OK.out.counts)) ?_
  simp only [Act.put, List.setIfInBounds_toArray, List.set_cons_zero, List.set_cons_succ]
  refine q_call 10 rfl (.bool true) 57 #[.agg (Wn.wcs s.min s.last s.counts).toArray] (by kernel_rfl) (fun w' _ => run_op_call _ _ _ rfl _ (by simp only [List.map_toArray, List.map_cons, List.map_nil]; rfl) Try.func57 (by kernel_rfl) (by kernel_rfl) w') (fun w' hC => (C1.out w').mono fun e w'' h => ⟨h.1, below_step hC hC.size h.2⟩) ?_
  simp only [Act.put, List.setIfInBounds_toArray, List.set_cons_zero, List.set_cons_succ]
  refine q_value 11 rfl (.bool true) (by kernel_rfl) (fun w' _ => by kernel_rfl) ?_
  simp only [Act.put, List.setIfInBounds_toArray, List.set_cons_zero, List.set_cons_succ]
  refine q_value 12 rfl (.pointer (some ⟨S, 99, none⟩)) (by kernel_rfl) (fun w' _ => by kernel_rfl) ?_
  simp only [Act.put, List.setIfInBounds_toArray, List.set_cons_zero, List.set_cons_succ]
  refine q_value 13 rfl (.pointer (some ⟨S, 100, none⟩)) (by kernel_rfl) (fun w' _ => by kernel_rfl) ?_
  simp only [Act.put, List.setIfInBounds_toArray, List.set_cons_zero, List.set_cons_succ]
  refine q_value 14 rfl (.pointer (some ⟨S, 100, none⟩)) (by kernel_rfl) (fun w' _ => by kernel_rfl) ?_
  simp only [Act.put, List.setIfInBounds_toArray, List.set_cons_zero, List.set_cons_succ]
  refine q_value 15 rfl (num32 s.last) (by kernel_rfl) (fun w' hC => run_op_load1 _ _ rfl _ Try.underlying22 rfl ⟨S, 100, none⟩ rfl _ ((HR.out.old hC).cell (sc_last OK.out))) ?_
  simp only [Act.put, List.setIfInBounds_toArray, List.set_cons_zero, List.set_cons_succ]
  refine q_value 16 rfl (.pointer (some ⟨S, 96, none⟩)) (by kernel_rfl) (fun w' _ => by kernel_rfl) ?_
  simp only [Act.put, List.setIfInBounds_toArray, List.set_cons_zero, List.set_cons_succ]
  refine q_value 17 rfl (num32 s.slot) (by kernel_rfl) (fun w' hC => run_op_load1 _ _ rfl _ Try.underlying22 rfl ⟨S, 96, none⟩ rfl _ ((HR.out.old hC).cell (sc_slot OK.out))) ?_
  simp only [Act.put, List.setIfInBounds_toArray, List.set_cons_zero, List.set_cons_succ]
  refine q_call 18 rfl (num32 (s.slot / 3)) 58 #[num32 s.slot] (by kernel_rfl) (fun w' _ => run_op_call _ _ _ rfl _ (by simp only [List.map_toArray, List.map_cons, List.map_nil]; rfl) Try.func58 (by kernel_rfl) (by kernel_rfl) w') (fun w' hC => (Rg.subB_any s.slot w' OK.out.slot).mono fun e w'' h => ⟨h.1, below_step hC hC.size h.2⟩) ?_
  simp only [Act.put, List.setIfInBounds_toArray, List.set_cons_zero, List.set_cons_succ]
  refine q_value 19 rfl (.bool true) (by kernel_rfl) (fun w' _ => cmp_eql _ _ .u32 (by kernel_rfl) _ _ rfl .u32 (s.last : Int) ((s.slot / 3 : Nat) : Int) rfl rfl _ B2.out w') ?_
  simp only [Act.put, List.setIfInBounds_toArray, List.set_cons_zero, List.set_cons_succ]
  refine q_value 20 rfl (.bool true) (by kernel_rfl) (fun w' _ => by kernel_rfl) ?_
  simp only [Act.put, List.setIfInBounds_toArray, List.set_cons_zero, List.set_cons_succ]
  refine q_value 21 rfl (.bool true) (by kernel_rfl) (fun w' _ => by kernel_rfl) ?_
  simp only [Act.put, List.setIfInBounds_toArray, List.set_cons_zero, List.set_cons_succ]
  refine q_value 22 rfl (.pointer (some ⟨S, 97, none⟩)) (by kernel_rfl) (fun w' _ => by kernel_rfl) ?_
  simp only [Act.put, List.setIfInBounds_toArray, List.set_cons_zero, List.set_cons_succ]
  refine q_value 23 rfl (num32 s.len) (by kernel_rfl) (fun w' hC => run_op_load1 _ _ rfl _ Try.underlying22 rfl ⟨S, 97, none⟩ rfl _ ((HR.out.old hC).cell (sc_len OK.out))) ?_
  simp only [Act.put, List.setIfInBounds_toArray, List.set_cons_zero, List.set_cons_succ]
  refine q_value 24 rfl (.pointer (some ⟨S, 96, none⟩)) (by kernel_rfl) (fun w' _ => by kernel_rfl) ?_
  simp only [Act.put, List.setIfInBounds_toArray, List.set_cons_zero, List.set_cons_succ]
  refine q_value 25 rfl (num32 s.slot) (by kernel_rfl) (fun w' hC => run_op_load1 _ _ rfl _ Try.underlying22 rfl ⟨S, 96, none⟩ rfl _ ((HR.out.old hC).cell (sc_slot OK.out))) ?_
  simp only [Act.put, List.setIfInBounds_toArray, List.set_cons_zero, List.set_cons_succ]
  refine q_call 26 rfl (.bool true) 59 #[num32 s.len, num32 s.slot] (by kernel_rfl) (fun w' _ => run_op_call _ _ _ rfl _ (by simp only [List.map_toArray, List.map_cons, List.map_nil]; rfl) Try.func59 (by kernel_rfl) (by kernel_rfl) w') (fun w' hC => (C3.out w').mono fun e w'' h => ⟨h.1, h.2 ▸ hC⟩) ?_
  simp only [Act.put, List.setIfInBounds_toArray, List.set_cons_zero, List.set_cons_succ]
  refine q_value 27 rfl (.bool true) (by kernel_rfl) (fun w' _ => by kernel_rfl) ?_
  simp only [Act.put, List.setIfInBounds_toArray, List.set_cons_zero, List.set_cons_succ]
  refine q_value 28 rfl (.bool true) (by kernel_rfl) (fun w' _ => by kernel_rfl) ?_
  simp only [Act.put, List.setIfInBounds_toArray, List.set_cons_zero, List.set_cons_succ]
  refine q_value 29 rfl (.pointer (some ⟨S, 98, none⟩)) (by kernel_rfl) (fun w' _ => by kernel_rfl) ?_
  simp only [Act.put, List.setIfInBounds_toArray, List.set_cons_zero, List.set_cons_succ]
  refine q_value 30 rfl (num32 s.count) (by kernel_rfl) (fun w' hC => run_op_load1 _ _ rfl _ Try.underlying22 rfl ⟨S, 98, none⟩ rfl _ ((HR.out.old hC).cell (sc_count OK.out))) ?_
  simp only [Act.put, List.setIfInBounds_toArray, List.set_cons_zero, List.set_cons_succ]
  refine q_value 31 rfl (.pointer (some ⟨S, 96, none⟩)) (by kernel_rfl) (fun w' _ => by kernel_rfl) ?_
  simp only [Act.put, List.setIfInBounds_toArray, List.set_cons_zero, List.set_cons_succ]
  refine q_value 32 rfl (num32 s.slot) (by kernel_rfl) (fun w' hC => run_op_load1 _ _ rfl _ Try.underlying22 rfl ⟨S, 96, none⟩ rfl _ ((HR.out.old hC).cell (sc_slot OK.out))) ?_
  simp only [Act.put, List.setIfInBounds_toArray, List.set_cons_zero, List.set_cons_succ]
  refine q_call 33 rfl (num32 (s.slot / 24)) 60 #[num32 s.slot] (by kernel_rfl) (fun w' _ => run_op_call _ _ _ rfl _ (by simp only [List.map_toArray, List.map_cons, List.map_nil]; rfl) Try.func60 (by kernel_rfl) (by kernel_rfl) w') (fun w' hC => (Slot.epochB_any s.slot w' OK.out.slot).mono fun e w'' h => ⟨h.1, below_step hC hC.size h.2⟩) ?_
  simp only [Act.put, List.setIfInBounds_toArray, List.set_cons_zero, List.set_cons_succ]
  refine q_value 34 rfl (.bool true) (by kernel_rfl) (fun w' _ => cmp_leq _ _ _ _ rfl .u32 (s.count : Int) ((s.slot / 24 : Nat) : Int) rfl rfl _ B4.out w') ?_
  simp only [Act.put, List.setIfInBounds_toArray, List.set_cons_zero, List.set_cons_succ]
  refine q_value 35 rfl (.bool true) (by kernel_rfl) (fun w' _ => by kernel_rfl) ?_
  simp only [Act.put, List.setIfInBounds_toArray, List.set_cons_zero, List.set_cons_succ]
  refine q_value 36 rfl (.bool true) (by kernel_rfl) (fun w' _ => by kernel_rfl) ?_
  simp only [Act.put, List.setIfInBounds_toArray, List.set_cons_zero, List.set_cons_succ]
  refine q_value 37 rfl (.pointer (some ⟨S, 98, none⟩)) (by kernel_rfl) (fun w' _ => by kernel_rfl) ?_
  simp only [Act.put, List.setIfInBounds_toArray, List.set_cons_zero, List.set_cons_succ]
  refine q_value 38 rfl (num32 s.count) (by kernel_rfl) (fun w' hC => run_op_load1 _ _ rfl _ Try.underlying22 rfl ⟨S, 98, none⟩ rfl _ ((HR.out.old hC).cell (sc_count OK.out))) ?_
  simp only [Act.put, List.setIfInBounds_toArray, List.set_cons_zero, List.set_cons_succ]
  refine q_value 39 rfl (.pointer (some ⟨S, 97, none⟩)) (by kernel_rfl) (fun w' _ => by kernel_rfl) ?_
  simp only [Act.put, List.setIfInBounds_toArray, List.set_cons_zero, List.set_cons_succ]
  refine q_value 40 rfl (num32 s.len) (by kernel_rfl) (fun w' hC => run_op_load1 _ _ rfl _ Try.underlying22 rfl ⟨S, 97, none⟩ rfl _ ((HR.out.old hC).cell (sc_len OK.out))) ?_
  simp only [Act.put, List.setIfInBounds_toArray, List.set_cons_zero, List.set_cons_succ]
  refine q_value 41 rfl (.bool true) (by kernel_rfl) (fun w' _ => cmp_lss _ _ _ _ rfl .u32 (s.count : Int) (s.len : Int) rfl rfl _ B5.out w') ?_
  simp only [Act.put, List.setIfInBounds_toArray, List.set_cons_zero, List.set_cons_succ]
  refine q_value 42 rfl (.bool true) (by kernel_rfl) (fun w' _ => by kernel_rfl) ?_
  simp only [Act.put, List.setIfInBounds_toArray, List.set_cons_zero, List.set_cons_succ]
  refine q_value 43 rfl (.bool true) (by kernel_rfl) (fun w' _ => by kernel_rfl) ?_
  simp only [Act.put, List.setIfInBounds_toArray, List.set_cons_zero, List.set_cons_succ]
  refine q_value 44 rfl (num32 s.next.len) (by kernel_rfl) (fun w' _ => by kernel_rfl) ?_
  simp only [Act.put, List.setIfInBounds_toArray, List.set_cons_zero, List.set_cons_succ]
  refine q_value 45 rfl (.pointer (some ⟨S, 96, none⟩)) (by kernel_rfl) (fun w' _ => by kernel_rfl) ?_
  simp only [Act.put, List.setIfInBounds_toArray, List.set_cons_zero, List.set_cons_succ]
  refine q_value 46 rfl (num32 s.slot) (by kernel_rfl) (fun w' hC => run_op_load1 _ _ rfl _ Try.underlying22 rfl ⟨S, 96, none⟩ rfl _ ((HR.out.old hC).cell (sc_slot OK.out))) ?_
  simp only [Act.put, List.setIfInBounds_toArray, List.set_cons_zero, List.set_cons_succ]
  refine q_call 47 rfl (num32 (s.slot % 24)) 61 #[num32 s.slot] (by kernel_rfl) (fun w' _ => run_op_call _ _ _ rfl _ (by simp only [List.map_toArray, List.map_cons, List.map_nil]; rfl) Try.func61 (by kernel_rfl) (by kernel_rfl) w') (fun w' hC => (Slot.placeB_any s.slot w' OK.out.slot).mono fun e w'' h => ⟨h.1, below_step hC hC.size h.2⟩) ?_
  simp only [Act.put, List.setIfInBounds_toArray, List.set_cons_zero, List.set_cons_succ]
  refine q_call 48 rfl (.bool true) 59 #[num32 s.next.len, num32 (s.slot % 24)] (by kernel_rfl) (fun w' _ => run_op_call _ _ _ rfl _ (by simp only [List.map_toArray, List.map_cons, List.map_nil]; rfl) Try.func59 (by kernel_rfl) (by kernel_rfl) w') (fun w' hC => (C6.out w').mono fun e w'' h => ⟨h.1, h.2 ▸ hC⟩) ?_
  simp only [Act.put, List.setIfInBounds_toArray, List.set_cons_zero, List.set_cons_succ]
  refine q_value 49 rfl (.bool true) (by kernel_rfl) (fun w' _ => by kernel_rfl) ?_
  simp only [Act.put, List.setIfInBounds_toArray, List.set_cons_zero, List.set_cons_succ]
  refine q_value 50 rfl (.bool true) (by kernel_rfl) (fun w' _ => by kernel_rfl) ?_
  simp only [Act.put, List.setIfInBounds_toArray, List.set_cons_zero, List.set_cons_succ]
  refine q_value 51 rfl (num32 s.next.len) (by kernel_rfl) (fun w' _ => by kernel_rfl) ?_
  simp only [Act.put, List.setIfInBounds_toArray, List.set_cons_zero, List.set_cons_succ]
  refine q_value 52 rfl (.pointer (some ⟨S, 97, none⟩)) (by kernel_rfl) (fun w' _ => by kernel_rfl) ?_
  simp only [Act.put, List.setIfInBounds_toArray, List.set_cons_zero, List.set_cons_succ]
  refine q_value 53 rfl (num32 s.len) (by kernel_rfl) (fun w' hC => run_op_load1 _ _ rfl _ Try.underlying22 rfl ⟨S, 97, none⟩ rfl _ ((HR.out.old hC).cell (sc_len OK.out))) ?_
  simp only [Act.put, List.setIfInBounds_toArray, List.set_cons_zero, List.set_cons_succ]
  refine q_value 54 rfl (.bool true) (by kernel_rfl) (fun w' _ => cmp_leq _ _ _ _ rfl .u32 (s.next.len : Int) (s.len : Int) rfl rfl _ B7.out w') ?_
  simp only [Act.put, List.setIfInBounds_toArray, List.set_cons_zero, List.set_cons_succ]
  refine q_value 55 rfl (.bool true) (by kernel_rfl) (fun w' _ => by kernel_rfl) ?_
  simp only [Act.put, List.setIfInBounds_toArray, List.set_cons_zero, List.set_cons_succ]
  refine q_value 2 rfl (.bool true) (by kernel_rfl) (fun w' _ => by kernel_rfl) ?_
  simp only [Act.put, List.setIfInBounds_toArray, List.set_cons_zero, List.set_cons_succ]
  refine wpQuiet_nil ?_
  intro w2 hC
  go_wp2_with fail
  go_ret
  exact ⟨rfl, below_step bel1 bel1.size hC⟩
theorem right_any (s : Sta) (w : World) (ok : s.Ok) : Calls Try.prog 33 #[.agg (scs s).toArray] w fun e w' => e = .returned (.bool (decide (SRt s))) ∧ Below w.heap.size w w' := by
  by_cases c1 : Wn.WRt s.min s.last s.counts
  case neg => rw [decide_eq_false (show ¬ SRt s from fun h => c1 h.1)]; exact right_no1 s w ok c1
  by_cases c2 : s.last = s.slot / 3
  case neg => rw [decide_eq_false (show ¬ SRt s from fun h => c2 h.2.1)]; exact right_no2 s w ok c1 c2
  by_cases c3 : Fits s.len s.slot
  case neg => rw [decide_eq_false (show ¬ SRt s from fun h => c3 h.2.2.1)]; exact right_no3 s w ok c1 c2 c3
  by_cases c4 : s.count ≤ s.slot / 24
  case neg => rw [decide_eq_false (show ¬ SRt s from fun h => c4 h.2.2.2.1)]; exact right_no4 s w ok c1 c2 c3 c4
  by_cases c5 : s.count < s.len
  case neg => rw [decide_eq_false (show ¬ SRt s from fun h => c5 h.2.2.2.2.1)]; exact right_no5 s w ok c1 c2 c3 c4 c5
  by_cases c6 : Fits s.next.len (s.slot % 24)
  case neg => rw [decide_eq_false (show ¬ SRt s from fun h => c6 h.2.2.2.2.2.1)]; exact right_no6 s w ok c1 c2 c3 c4 c5 c6
  by_cases c7 : s.next.len ≤ s.len
  case neg => rw [decide_eq_false (show ¬ SRt s from fun h => c7 h.2.2.2.2.2.2)]; exact right_no7 s w ok c1 c2 c3 c4 c5 c6 c7
  rw [decide_eq_true (show SRt s from ⟨c1, c2, c3, c4, c5, c6, c7⟩)]
  exact right_all s w ok c1 c2 c3 c4 c5 c6 c7
end Go.Proofs.Ytghogoijjaiccaa.Sa
