import Derived.Test.YtghogoijjaiccaaRingAll
import Derived.Deep.DeepCutAuto
/-
  Window states as cells: a number and a ring; what puts a block (a ring and a slot); '==' between window states. Over this seat's translation.
-/
namespace Go.Proofs.Ytghogoijjaiccaa.Wn
open Go.ChangeShapes Go.WideShapes Go.ChangeAt Go.RowKit Go.Proofs.Ytghogoijjaiccaa.Mem Go.Proofs.Ytghogoijjaiccaa.Bt Go.Proofs.Ytghogoijjaiccaa.Rg
set_option linter.unusedVariables false
set_option linter.unusedSimpArgs false

/-- A window state's cells. -/
def wcs (M L : Nat) (cs : List Nat) : List Value := .int .u32 (M : Int) :: rcs L cs
theorem wcs_len {M L : Nat} {cs : List Nat} (h : cs.length = 4) : (wcs M L cs).length = 6 := by unfold wcs; rw [List.length_cons, rcs_len h]
theorem wcs_one (M L : Nat) (cs : List Nat) : OneCells (wcs M L cs) := by
  intro v hv
  unfold wcs at hv
  rcases List.mem_cons.1 hv with rfl | hv
  · rfl
  · exact rcs_one _ _ v hv
theorem wcs_get0 (M L : Nat) (cs : List Nat) : (wcs M L cs)[0]? = some (.int .u32 (M : Int)) := rfl
theorem row_ring {w : World} {b : Nat} {t : TypeId} {M L : Nat} {cs : List Nat} (h : Row w b t (wcs M L cs)) : w.rangeAt b 1 (rcs L cs) := h.range 1 _ (fun j v hj => by unfold wcs; rw [Nat.add_comm, List.getElem?_cons_succ]; exact hj)
theorem wz_len : (wcs 0 0 [0, 0, 0, 0]).length = 6 := rfl
theorem z_win : Mem.Zero Try.prog 29 (wcs 0 0 [0, 0, 0, 0]) := by unfold Mem.Zero; kernel_rfl
theorem sz_win {M L : Nat} {cs : List Nat} (h : cs.length = 4) : Sized Try.prog 29 (wcs M L cs).length := by rw [wcs_len h]; exact ⟨.struct (Try.prog.fieldsOf 29), by kernel_rfl, rfl, by kernel_rfl⟩
theorem sz_rwin {M L : Nat} {cs : List Nat} (h : cs.length = 4) : Sized Try.prog 51 (wcs M L cs).length := by rw [wcs_len h]; exact ⟨.struct (Try.prog.fieldsOf 51), by kernel_rfl, rfl, by kernel_rfl⟩
theorem built_rwin (M L : Nat) (cs : List Nat) (h : cs.length = 4) : Try.prog.built 51 [(0, .int .u32 (M : Int)), (1, .agg (rcs L cs).toArray)] = some (wcs M L cs).toArray := by
  obtain ⟨a, b, c, d, rfl⟩ := four h
  kernel_rfl
/-- The cells of what puts a block. -/
def pcs (L : Nat) (cs : List Nat) (s : Nat) : List Value := rcs L cs ++ [.int .u32 (s : Int)]
theorem pcs_len {L s : Nat} {cs : List Nat} (h : cs.length = 4) : (pcs L cs s).length = 6 := by unfold pcs; rw [List.length_append, rcs_len h]; rfl
theorem pcs_one (L s : Nat) (cs : List Nat) : OneCells (pcs L cs s) := by
  intro v hv
  unfold pcs at hv
  rcases List.mem_append.1 hv with hv | hv
  · exact rcs_one _ _ v hv
  · rw [List.mem_singleton.1 hv]; rfl
section
variable {o : Oper} {a : Act}
end

/-- A window state that may be. -/
def WRt (M L : Nat) (cs : List Nat) : Prop := M ≤ 12 ∧ Rt L cs
instance (M L : Nat) (cs : List Nat) : Decidable (WRt M L cs) := by unfold WRt; exact inferInstance
end Go.Proofs.Ytghogoijjaiccaa.Wn

/-
  The contracts of package window's leaves: Genesis, Right, and what tells of a block that was put. Over this seat's translation.
-/
namespace Go.Proofs.Ytghogoijjaiccaa.Wn
open Go.ChangeShapes Go.WideShapes Go.ChangeAt Go.RowKit Go.Proofs.Ytghogoijjaiccaa.Mem Go.Proofs.Ytghogoijjaiccaa.Bt Go.Proofs.Ytghogoijjaiccaa.Rg
set_option linter.unusedVariables false
set_option linter.unusedSimpArgs false

theorem wgenesis_any (w : World) : Calls Try.prog 38 #[] w fun e w' => e = .returned (.agg (wcs 12 0 [1, 3, 3, 3]).toArray) ∧ Below w.heap.size w w' := by
  go_enter Try.func38, Try.ntmps38
  go_wp2_with (first
    | ((with_reducible refine at_slot 0 ?_); (refine arm_alloc (o := ⟨some 0, _, _, _, _, _⟩) rfl _ rfl (wcs 0 0 [0, 0, 0, 0]) z_win ?_); intro R wa Re hwa nwa))
  refine (Rg.genesis_any _).mono ?_
  rintro e wb ⟨rfl, hB⟩
  have rR := hwa.old hB
  go_wp2_with (first
    | ((with_reducible refine at_slot 2 ?_); (refine arm_build (o := ⟨some 2, _, _, _, _, _⟩) rfl _ _ rfl (wcs 12 0 [1, 3, 3, 3]) (by kernel_rfl) ?_))
    | ((with_reducible refine arm_store (o := ⟨none, _, _, _, _, _⟩) rfl _ _ _ rfl R 0 rfl (wcs 12 0 [1, 3, 3, 3]) rfl _ _ (rR) (by rw [wcs_len rfl, wz_len]; omega) (wcs_one _ _ _) (sz_win rfl) ?_); intro wc hwc owc swc))
  have eR := Re.out; have sR := nwa.size; have tR := hB.size
  refine bodyPost_ret (v := .agg (wcs 12 0 [1, 3, 3, 3]).toArray) (result_row (p := 0) (ty := 29) (u := 29) (by kernel_rfl) _ wc R _ rfl (hwc.congr (lay_all _ _ (by rw [wcs_len rfl, wz_len]))) (sz_win rfl)) rfl ⟨rfl, below_only (below_step nwa.below (by omega) hB) owc (by omega) (by omega)⟩
theorem wright_any (M L : Nat) (cs : List Nat) (w : World) (hM : M < 4294967296) (hL : L < 4294967296) (hc : AllLt 4294967296 cs) (hl : cs.length = 4) :
    Calls Try.prog 57 #[.agg (wcs M L cs).toArray] w fun e w' => e = .returned (.bool (decide (WRt M L cs))) ∧ Below w.heap.size w w' := by
  have HL := Lib.hid hl; clear hl
  have HC := Lib.hid hc; clear hc
  obtain ⟨v, hv⟩ : ∃ v : Bool, v = decide (WRt M L cs) := ⟨_, rfl⟩
  rw [← hv]
  by_cases hm : M ≤ 12
  · have hd : decide ((M : Int) ≤ 12) = true := decide_eq_true (by omega)
    have hq : decide (Rt L cs) = v := by rw [hv]; exact decide_eq_decide.2 ⟨fun h => ⟨hm, h⟩, fun h => h.2⟩
    have HQ := Lib.hid hq
    clear hv hq
    go_enter Try.func57, Try.ntmps57
    go_wp2_with (first
      | ((with_reducible refine at_slot 1 ?_); (refine arm_box (o := ⟨some 1, _, _, _, _, _⟩) rfl _ _ rfl (wcs M L cs) rfl ?_); intro B wa Be hwa nwa; have cB := hwa.cell (wcs_get0 M L cs))
      | ((with_reducible refine at_slot 8 ?_); (refine arm_want ((.agg (rcs L cs).toArray)) 8 rfl (by kernel_rfl) (run_op_load _ _ rfl B 1 rfl (rcs L cs) (row_ring hwa) (sz_ring' HL.out)) ?_)))
    refine (Rg.right_any L cs _ hL HC.out HL.out).mono ?_
    rw [HQ.out]
    rintro e wb ⟨rfl, hB⟩
    go_wp2_with fail
    go_ret
    exact ⟨rfl, below_step nwa.below nwa.below.size hB⟩
  · have hd : decide ((M : Int) ≤ 12) = false := decide_eq_false (by omega)
    obtain rfl : v = false := by rw [hv]; exact decide_eq_false (fun h => hm h.1)
    clear hv
    go_enter Try.func57, Try.ntmps57
    go_wp2_with (first
      | ((with_reducible refine at_slot 1 ?_); (refine arm_box (o := ⟨some 1, _, _, _, _, _⟩) rfl _ _ rfl (wcs M L cs) rfl ?_); intro B wa Be hwa nwa; have cB := hwa.cell (wcs_get0 M L cs)))
    go_ret
    exact ⟨rfl, nwa.below⟩
theorem rwright_any (M L : Nat) (cs : List Nat) (w : World) (hM : M < 4294967296) (hL : L < 4294967296) (hl : cs.length = 4) :
    Calls Try.prog 62 #[.agg (wcs M L cs).toArray] w fun e w' => e = .returned (.bool (decide (WRt M L cs))) ∧ Below w.heap.size w w' := by
  have HL := Lib.hid hl; clear hl
  obtain ⟨v, hv⟩ : ∃ v : Bool, v = decide (WRt M L cs) := ⟨_, rfl⟩
  rw [← hv]
  by_cases hm : M ≤ 12
  · have hd : decide ((M : Int) ≤ 12) = true := decide_eq_true (by omega)
    have hq : decide (Rt L cs) = v := by rw [hv]; exact decide_eq_decide.2 ⟨fun h => ⟨hm, h⟩, fun h => h.2⟩
    have HQ := Lib.hid hq
    clear hv hq
    go_enter Try.func62, Try.ntmps62
    go_wp2_with (first
      | ((with_reducible refine at_slot 1 ?_); (refine arm_box (o := ⟨some 1, _, _, _, _, _⟩) rfl _ _ rfl (wcs M L cs) rfl ?_); intro B wa Be hwa nwa; have cB := hwa.cell (wcs_get0 M L cs))
      | ((with_reducible refine at_slot 8 ?_); (refine arm_want ((.agg (rcs L cs).toArray)) 8 rfl (by kernel_rfl) (run_op_load _ _ rfl B 1 rfl (rcs L cs) (row_ring hwa) (sz_rref' HL.out)) ?_)))
    refine (Rg.rright_any L cs _ hL HL.out).mono ?_
    rw [HQ.out]
    rintro e wb ⟨rfl, hB⟩
    go_wp2_with fail
    go_ret
    exact ⟨rfl, below_step nwa.below nwa.below.size hB⟩
  · have hd : decide ((M : Int) ≤ 12) = false := decide_eq_false (by omega)
    obtain rfl : v = false := by rw [hv]; exact decide_eq_false (fun h => hm h.1)
    clear hv
    go_enter Try.func62, Try.ntmps62
    go_wp2_with (first
      | ((with_reducible refine at_slot 1 ?_); (refine arm_box (o := ⟨some 1, _, _, _, _, _⟩) rfl _ _ rfl (wcs M L cs) rfl ?_); intro B wa Be hwa nwa; have cB := hwa.cell (wcs_get0 M L cs)))
    go_ret
    exact ⟨rfl, nwa.below⟩
end Go.Proofs.Ytghogoijjaiccaa.Wn

/-
  The contract of what puts a block into the ring that it embeds. Over this seat's translation.
-/
namespace Go.Proofs.Ytghogoijjaiccaa.Wn
open Go.ChangeShapes Go.WideShapes Go.ChangeAt Go.RowKit Go.Proofs.Ytghogoijjaiccaa.Mem Go.Proofs.Ytghogoijjaiccaa.Bt Go.Proofs.Ytghogoijjaiccaa.Rg
set_option linter.unusedVariables false
set_option linter.unusedSimpArgs false

end Go.Proofs.Ytghogoijjaiccaa.Wn

/-
  The contracts of package window's Put and Relative. Over this seat's translation.
-/
namespace Go.Proofs.Ytghogoijjaiccaa.Wn
open Go.ChangeShapes Go.WideShapes Go.ChangeAt Go.RowKit Go.Proofs.Ytghogoijjaiccaa.Mem Go.Proofs.Ytghogoijjaiccaa.Bt Go.Proofs.Ytghogoijjaiccaa.Rg
set_option linter.unusedVariables false
set_option linter.unusedSimpArgs false

end Go.Proofs.Ytghogoijjaiccaa.Wn

/-
  The contracts of the document's Relative and Put for window states. Over this seat's translation.
-/
namespace Go.Proofs.Ytghogoijjaiccaa.Wn
open Go.ChangeShapes Go.WideShapes Go.ChangeAt Go.RowKit Go.Proofs.Ytghogoijjaiccaa.Mem Go.Proofs.Ytghogoijjaiccaa.Bt Go.Proofs.Ytghogoijjaiccaa.Rg
set_option linter.unusedVariables false
set_option linter.unusedSimpArgs false

end Go.Proofs.Ytghogoijjaiccaa.Wn
