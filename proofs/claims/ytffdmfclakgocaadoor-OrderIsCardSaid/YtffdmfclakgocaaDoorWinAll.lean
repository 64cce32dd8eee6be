import Derived.Test.YtffdmfclakgocaaDoorRingAll
import Derived.Deep.DeepCutAuto
/-
  Window states as cells: a number and a ring; what puts a block (a ring and a slot); '==' between window states. Over this seat's translation.
-/
namespace Go.Proofs.YtffdmfclakgocaaDoor.Wn
open Go.ChangeShapes Go.WideShapes Go.ChangeAt Go.RowKit Go.Proofs.YtffdmfclakgocaaDoor.Mem Go.Proofs.YtffdmfclakgocaaDoor.Bt Go.Proofs.YtffdmfclakgocaaDoor.Rg
set_option linter.unusedVariables false
set_option linter.unusedSimpArgs false

/-- A window state's cells. -/
def wcs (M L : Nat) (cs : List Nat) : List Value := .int .u32 (M : Int) :: rcs L cs
theorem wcs_len {M L : Nat} {cs : List Nat} (h : cs.length = 4) : (wcs M L cs).length = 6 := by unfold wcs; rw [List.length_cons, rcs_len h]
theorem wcs_one (M L : Nat) (cs : List Nat) : OneCells (wcs M L cs) := by
  intro v hv
  unfold wcs at hv
  rcases List.mem_cons.1 hv with rfl | hv
  · rfl
  · exact rcs_one _ _ v hv
theorem wcs_get0 (M L : Nat) (cs : List Nat) : (wcs M L cs)[0]? = some (.int .u32 (M : Int)) := rfl
theorem wcs_get1 (M L : Nat) (cs : List Nat) : (wcs M L cs)[1]? = some (.int .u32 (L : Int)) := rfl
theorem row_ring {w : World} {b : Nat} {t : TypeId} {M L : Nat} {cs : List Nat} (h : Row w b t (wcs M L cs)) : w.rangeAt b 1 (rcs L cs) := h.range 1 _ (fun j v hj => by unfold wcs; rw [Nat.add_comm, List.getElem?_cons_succ]; exact hj)
theorem wz_len : (wcs 0 0 [0, 0, 0, 0]).length = 6 := rfl
theorem z_win : Mem.Zero Tryd.prog 29 (wcs 0 0 [0, 0, 0, 0]) := by unfold Mem.Zero; kernel_rfl
theorem sz_win {M L : Nat} {cs : List Nat} (h : cs.length = 4) : Sized Tryd.prog 29 (wcs M L cs).length := by rw [wcs_len h]; exact ⟨.struct (Tryd.prog.fieldsOf 29), by kernel_rfl, rfl, by kernel_rfl⟩
theorem z_rwin : Mem.Zero Tryd.prog 46 (wcs 0 0 [0, 0, 0, 0]) := by unfold Mem.Zero; kernel_rfl
theorem sz_rwin {M L : Nat} {cs : List Nat} (h : cs.length = 4) : Sized Tryd.prog 46 (wcs M L cs).length := by rw [wcs_len h]; exact ⟨.struct (Tryd.prog.fieldsOf 46), by kernel_rfl, rfl, by kernel_rfl⟩
theorem built_win (M L : Nat) (cs : List Nat) (h : cs.length = 4) : Tryd.prog.built 29 [(0, .int .u32 (M : Int)), (1, .agg (rcs L cs).toArray)] = some (wcs M L cs).toArray := by
  obtain ⟨a, b, c, d, rfl⟩ := four h
  kernel_rfl
theorem built_rwin (M L : Nat) (cs : List Nat) (h : cs.length = 4) : Tryd.prog.built 46 [(0, .int .u32 (M : Int)), (1, .agg (rcs L cs).toArray)] = some (wcs M L cs).toArray := by
  obtain ⟨a, b, c, d, rfl⟩ := four h
  kernel_rfl
theorem fit5 {L : Nat} {cs : List Nat} (h : cs.length = 4) : 0 + (rcs L cs).length ≤ (rcs 0 [0, 0, 0, 0]).length := by rw [rcs_len h]; decide
theorem len5 {L : Nat} {cs : List Nat} (h : cs.length = 4) : (rcs L cs).length = (rcs 0 [0, 0, 0, 0]).length := by rw [rcs_len h]; rfl
theorem fit6 {M L : Nat} {cs : List Nat} (h : cs.length = 4) : 0 + (wcs M L cs).length ≤ (wcs 0 0 [0, 0, 0, 0]).length := by rw [wcs_len h]; decide
theorem len6 {M L : Nat} {cs : List Nat} (h : cs.length = 4) : (wcs M L cs).length = (wcs 0 0 [0, 0, 0, 0]).length := by rw [wcs_len h]; rfl
/-- The cells of what puts a block. -/
def pcs (L : Nat) (cs : List Nat) (s : Nat) : List Value := rcs L cs ++ [.int .u32 (s : Int)]
theorem pcs_len {L s : Nat} {cs : List Nat} (h : cs.length = 4) : (pcs L cs s).length = 6 := by unfold pcs; rw [List.length_append, rcs_len h]; rfl
theorem pcs_one (L s : Nat) (cs : List Nat) : OneCells (pcs L cs s) := by
  intro v hv
  unfold pcs at hv
  rcases List.mem_append.1 hv with hv | hv
  · exact rcs_one _ _ v hv
  · rw [List.mem_singleton.1 hv]; rfl
theorem pcs_get0 (L s : Nat) (cs : List Nat) : (pcs L cs s)[0]? = some (.int .u32 (L : Int)) := rfl
theorem pcs_get {L s : Nat} {cs : List Nat} {i : Nat} (h : i < cs.length) : (pcs L cs s)[1 + i]? = some (.int .u32 ((cs.getD i 0 : Nat) : Int)) := by
  have hl : 1 + i < (rcs L cs).length := by unfold rcs; rw [List.length_cons, u32s_length]; omega
  unfold pcs
  rw [List.getElem?_append_left hl, rcs_get h]
theorem pcs_getS {L s : Nat} {cs : List Nat} (h : cs.length = 4) : (pcs L cs s)[5]? = some (.int .u32 (s : Int)) := by
  unfold pcs
  rw [List.getElem?_append_right (by rw [rcs_len h]; omega), rcs_len h]
  rfl
theorem prow_ring {w : World} {b : Nat} {t : TypeId} {L s : Nat} {cs : List Nat} (h : Row w b t (pcs L cs s)) : w.rangeAt b 0 (rcs L cs) := h.range 0 _ (fun j v hj => by
  unfold pcs
  rw [Nat.zero_add, List.getElem?_append_left (List.getElem?_eq_some_iff.1 hj).1]
  exact hj)
theorem pcs_lay {L M s : Nat} {cs ds : List Nat} (h : cs.length = 4) (g : ds.length = 4) : lay (pcs L cs s) 0 (rcs M ds) = pcs M ds s := by
  obtain ⟨a, b, c, d, rfl⟩ := four h
  obtain ⟨x, y, z, u, rfl⟩ := four g
  rfl
theorem pz_len : (pcs 0 [0, 0, 0, 0] 0).length = 6 := rfl
/-! ### '==' between the document's window states. -/
theorem part_min (M L : Nat) (cs : List Nat) (w : World) : (part 24 (wcs M L cs).toArray 0).run Tryd.prog w = .ok (.int .u32 (M : Int)) w := by
  have hu : Tryd.prog.underlying 24 = some (.int .u32) := by kernel_rfl
  simp [part, isAgg, run_underlying hu, wcs]
theorem part_ring (M L : Nat) (cs : List Nat) (h : cs.length = 4) (w : World) : (part 44 (wcs M L cs).toArray 1).run Tryd.prog w = .ok (.agg (rcs L cs).toArray) w := by
  have hu : Tryd.prog.underlying 44 = some (.struct (Tryd.prog.fieldsOf 44)) := by kernel_rfl
  have hs : (sizeOf 44).run Tryd.prog w = .ok 5 w := by kernel_rfl
  obtain ⟨a, b, c, d, rfl⟩ := four h
  simp [part, isAgg, run_underlying hu, wcs, rcs, u32s, hs]
/-- The two fields of a window state. -/
structure WFields (r : TypeId) (fs : List Field) : Prop where
  ex : ∃ f g : Field, fs = [f, g] ∧ f.name ≠ "_" ∧ f.type = 24 ∧ f.offset = 0 ∧ g.name ≠ "_" ∧ g.type = r ∧ g.offset = 1
theorem wfields_of {r : TypeId} {fs : List Field} (h : fs.map (fun f => (f.name, f.type, f.offset)) = [("Min", 24, 0), ("Ring", r, 1)]) : WFields r fs := by
  have hl : fs.length = 2 := by have := congrArg List.length h; simpa using this
  match fs, hl with
  | [f, g], _ =>
    simp only [List.map_cons, List.map_nil, List.cons.injEq, Prod.mk.injEq, and_true] at h
    obtain ⟨⟨h1, h2, h3⟩, h4, h5, h6⟩ := h
    exact ⟨f, g, rfl, by rw [h1]; decide, h2, h3, by rw [h4]; decide, h5, h6⟩
theorem fields_win : WFields 27 (Tryd.prog.fieldsOf 29).toList := wfields_of (by kernel_rfl)
theorem fields_rwin : WFields 44 (Tryd.prog.fieldsOf 46).toList := wfields_of (by kernel_rfl)
theorem eq_rwin (d M L K J : Nat) (xs ys : List Nat) (hx : xs.length = 4) (hy : ys.length = 4) (w : World) :
    (Op.equalIn (d + 4) 46 (.agg (wcs M L xs).toArray) (.agg (wcs K J ys).toArray)).run Tryd.prog w = .ok (decide (M = K ∧ L = J ∧ xs = ys)) w := by
  rw [run_equalIn_struct w (d + 3) 46 _ _ (by kernel_rfl) (by kernel_rfl)]
  obtain ⟨f, g, hfs, n1, t1, o1, n2, t2, o2⟩ := fields_rwin.ex
  rw [hfs]
  simp only [Op.eqFields, n1, n2, ne_eq, not_false_eq_true, if_true, t1, t2, o1, o2, Sem.run_bind, part_min, Result.andThen_ok, eq_num]
  by_cases h1 : M = K
  · by_cases h2 : L = J ∧ xs = ys
    · obtain ⟨rfl, rfl⟩ := h2
      simp [h1, part_ring _ _ _ hx, eq_rref d L L xs xs hx hx]
    · simp [h1, h2, part_ring _ _ _ hx, part_ring _ _ _ hy, eq_rref d L J xs ys hx hy]
  · simp [h1]
section
variable {o : Oper} {a : Act}
theorem run_op_eqlW (x y : Operand) (t' : TypeId) (ho : o.op = .binOp .eql 46 x y t') (M L K J : Nat) (xs ys : List Nat) (hlx : xs.length = 4) (hly : ys.length = 4) (hx : a.eval x = .agg (wcs M L xs).toArray) (hy : a.eval y = .agg (wcs K J ys).toArray) (w : World) :
    (execOp a.eval o).run Tryd.prog w = .ok (.value (.bool (decide (M = K ∧ L = J ∧ xs = ys)))) w := by
  unfold execOp
  simp only [ho, hx, hy, Sem.run_bind, run_eqGuard_agg w _ _ _ _ _ _ (show Tryd.prog.eqGuardType Tryd.prog.depth 46 = false by kernel_rfl), Result.andThen_ok, binOp, Op.equal, Op.maxDepth, eq_rwin 9996 M L K J xs ys hlx hly w, Sem.run_pure]
theorem run_op_neqW (x y : Operand) (t' : TypeId) (ho : o.op = .binOp .neq 46 x y t') (M L K J : Nat) (xs ys : List Nat) (hlx : xs.length = 4) (hly : ys.length = 4) (hx : a.eval x = .agg (wcs M L xs).toArray) (hy : a.eval y = .agg (wcs K J ys).toArray) (w : World) :
    (execOp a.eval o).run Tryd.prog w = .ok (.value (.bool (!decide (M = K ∧ L = J ∧ xs = ys)))) w := by
  unfold execOp
  simp only [ho, hx, hy, Sem.run_bind, run_eqGuard_agg w _ _ _ _ _ _ (show Tryd.prog.eqGuardType Tryd.prog.depth 46 = false by kernel_rfl), Result.andThen_ok, binOp, Op.equal, Op.maxDepth, eq_rwin 9996 M L K J xs ys hlx hly w, Sem.run_pure]
end

/-! ### What is told of window states. -/
/-- A window state that may be. -/
def WRt (M L : Nat) (cs : List Nat) : Prop := M ≤ 12 ∧ Rt L cs
instance (M L : Nat) (cs : List Nat) : Decidable (WRt M L cs) := by unfold WRt; exact inferInstance
/-- The least density as of a slot. -/
def relN (M L : Nat) (cs : List Nat) (s : Nat) : Nat := if s < 12 ∨ s / 3 ≤ L then M else min M (befN L cs (s / 3))
theorem relN_le (M L : Nat) (cs : List Nat) (s : Nat) : relN M L cs s ≤ M := by unfold relN; split <;> omega
/-- Min, with one block more. -/
def putM (M L : Nat) (cs : List Nat) (s : Nat) : Nat := if L ≤ s / 3 ∧ atG L cs ((s / 3 : Nat) : Int) < 3 then relN M L cs s else 0
theorem atG_own {L : Nat} {cs : List Nat} (h : Rt L cs) : 1 ≤ atG L cs (L : Int) := by
  rw [atG_in (by omega) (by omega), show ((L : Int) % 4).toNat = L % 4 by omega]
  exact h.2
/-- The only one of its sub-window, just where the sub-window is a new one. -/
theorem putd_alone {L s : Nat} {cs : List Nat} (h : Rt L cs) (hs : L ≤ s) : (putd L cs s).getD (s % 4) 0 = 1 ↔ L < s := by
  have e : (putd L cs s).getD (s % 4) 0 = atG L cs (s : Int) + 1 := by
    unfold putd
    rw [set_getD _ _ _ _ (by rw [mvd_len]; omega), if_pos rfl]
  rw [e]
  rcases Nat.lt_or_ge L s with h1 | h1
  · rw [atG_out (by omega)]; omega
  · have : s = L := by omega
    subst this
    have := atG_own h
    omega
end Go.Proofs.YtffdmfclakgocaaDoor.Wn

/-
  The contracts of package window's leaves: Genesis, Right, and what tells of a block that was put. Over this seat's translation.
-/
namespace Go.Proofs.YtffdmfclakgocaaDoor.Wn
open Go.ChangeShapes Go.WideShapes Go.ChangeAt Go.RowKit Go.Proofs.YtffdmfclakgocaaDoor.Mem Go.Proofs.YtffdmfclakgocaaDoor.Bt Go.Proofs.YtffdmfclakgocaaDoor.Rg
set_option linter.unusedVariables false
set_option linter.unusedSimpArgs false

theorem wgenesis_any (w : World) : Calls Tryd.prog 24 #[] w fun e w' => e = .returned (.agg (wcs 12 0 [1, 3, 3, 3]).toArray) ∧ Below w.heap.size w w' := by
  go_enter Tryd.func24, Tryd.ntmps24
  go_wp2_with (first
    | ((with_reducible refine at_slot 0 ?_); (refine arm_alloc (o := ⟨some 0, _, _, _, _, _⟩) rfl _ rfl (wcs 0 0 [0, 0, 0, 0]) z_win ?_); intro R wa Re hwa nwa))
  refine (Rg.genesis_any _).mono ?_
  rintro e wb ⟨rfl, hB⟩
  have rR := hwa.old hB
  go_wp2_with (first
    | ((with_reducible refine at_slot 2 ?_); (refine arm_build (o := ⟨some 2, _, _, _, _, _⟩) rfl _ _ rfl (wcs 12 0 [1, 3, 3, 3]) (by kernel_rfl) ?_))
    | ((with_reducible refine arm_store (o := ⟨none, _, _, _, _, _⟩) rfl _ _ _ rfl R 0 rfl (wcs 12 0 [1, 3, 3, 3]) rfl _ _ (rR) (by rw [wcs_len rfl, wz_len]; omega) (wcs_one _ _ _) (sz_win rfl) ?_); intro wc hwc owc swc))
  have eR := Re.out; have sR := nwa.size; have tR := hB.size
  refine bodyPost_ret (v := .agg (wcs 12 0 [1, 3, 3, 3]).toArray) (result_row (p := 0) (ty := 29) (u := 29) (by kernel_rfl) _ wc R _ rfl (hwc.congr (lay_all _ _ (by rw [wcs_len rfl, wz_len]))) (sz_win rfl)) rfl ⟨rfl, below_only (below_step nwa.below (by omega) hB) owc (by omega) (by omega)⟩
end Go.Proofs.YtffdmfclakgocaaDoor.Wn

/-
  The contract of what puts a block into the ring that it embeds. Over this seat's translation.
-/
namespace Go.Proofs.YtffdmfclakgocaaDoor.Wn
open Go.ChangeShapes Go.WideShapes Go.ChangeAt Go.RowKit Go.Proofs.YtffdmfclakgocaaDoor.Mem Go.Proofs.YtffdmfclakgocaaDoor.Bt Go.Proofs.YtffdmfclakgocaaDoor.Rg
set_option linter.unusedVariables false
set_option linter.unusedSimpArgs false

/-- The ring that is there behind a block, or the ring as it was. -/
def aftL (L : Nat) (cs : List Nat) (u : Nat) : Nat := if L ≤ u ∧ atG L cs u < 3 then u else L
def aftC (L : Nat) (cs : List Nat) (u : Nat) : List Nat := if L ≤ u ∧ atG L cs u < 3 then putd L cs u else cs
theorem put_yes {L u : Nat} {cs : List Nat} (h : L ≤ u ∧ atG L cs u < 3) : putL L cs u = u ∧ putC L cs u = putd L cs u ∧ putE L cs u = 0 ∧ aftL L cs u = u ∧ aftC L cs u = putd L cs u := by
  unfold putL putC putE aftL aftC
  refine ⟨if_pos h, if_pos h, ?_, if_pos h, if_pos h⟩
  rw [if_neg (by omega), if_pos h.2]
theorem put_no {L u : Nat} {cs : List Nat} (h : ¬ (L ≤ u ∧ atG L cs u < 3)) : putL L cs u = 0 ∧ putC L cs u = [0, 0, 0, 0] ∧ putE L cs u ≠ 0 ∧ aftL L cs u = L ∧ aftC L cs u = cs := by
  unfold putL putC putE aftL aftC
  refine ⟨if_neg h, if_neg h, ?_, if_neg h, if_neg h⟩
  split
  · omega
  · rw [if_neg (fun h3 => h ⟨by omega, h3⟩)]; omega
end Go.Proofs.YtffdmfclakgocaaDoor.Wn

/-
  The contracts of package window's Put and Relative. Over this seat's translation.
-/
namespace Go.Proofs.YtffdmfclakgocaaDoor.Wn
open Go.ChangeShapes Go.WideShapes Go.ChangeAt Go.RowKit Go.Proofs.YtffdmfclakgocaaDoor.Mem Go.Proofs.YtffdmfclakgocaaDoor.Bt Go.Proofs.YtffdmfclakgocaaDoor.Rg
set_option linter.unusedVariables false
set_option linter.unusedSimpArgs false

theorem num_min (x y : Nat) : (if (y : Int) < (x : Int) then (y : Int) else (x : Int)) = ((min x y : Nat) : Int) := by split <;> omega
theorem looks_new {L u s : Nat} {cs : List Nat} (h : Rt L cs) (hu : L ≤ u) : decide (12 ≤ s ∧ (putd L cs u).getD (u % 4) 0 = 1) = decide (12 ≤ s ∧ L < u) := decide_eq_decide.2 ⟨fun g => ⟨g.1, (putd_alone h hu).1 g.2⟩, fun g => ⟨g.1, (putd_alone h hu).2 g.2⟩⟩
theorem rel_of_put {M L s : Nat} {cs : List Nat} (h : Rt L cs) : relN M L cs s = if putE L cs (s / 3) = 0 then putM M L cs s else M := by
  by_cases hok : L ≤ s / 3 ∧ atG L cs ((s / 3 : Nat) : Int) < 3
  · rw [if_pos (put_yes hok).2.2.1]
    exact (if_pos hok).symm
  · rw [if_neg (put_no hok).2.2.1]
    refine if_pos (Or.inr ?_)
    rcases Nat.lt_or_ge L (s / 3) with h1 | h1
    · exact absurd ⟨by omega, by rw [atG_out (.inr (by omega))]; omega⟩ hok
    · exact h1
end Go.Proofs.YtffdmfclakgocaaDoor.Wn

/-
  The contracts of the document's Relative and Put for window states. Over this seat's translation.
-/
namespace Go.Proofs.YtffdmfclakgocaaDoor.Wn
open Go.ChangeShapes Go.WideShapes Go.ChangeAt Go.RowKit Go.Proofs.YtffdmfclakgocaaDoor.Mem Go.Proofs.YtffdmfclakgocaaDoor.Bt Go.Proofs.YtffdmfclakgocaaDoor.Rg
set_option linter.unusedVariables false
set_option linter.unusedSimpArgs false

theorem run_op_lssI {P : Program} {o : Oper} {a : Act} (t t' : TypeId) (k' : IntKind) (hu : P.underlying t = some (.int k')) (x y : Operand) (ho : o.op = .binOp .lss t x y t') (k : IntKind) (m n : Int) (hx : a.eval x = .int k m) (hy : a.eval y = .int k n) (w : World) :
    (execOp a.eval o).run P w = .ok (.value (.bool (decide (m < n)))) w := by
  unfold execOp
  simp [ho, hx, hy, eqGuard, binOp, Op.intCmp]
theorem run_op_leqI {P : Program} {o : Oper} {a : Act} (t t' : TypeId) (k' : IntKind) (hu : P.underlying t = some (.int k')) (x y : Operand) (ho : o.op = .binOp .leq t x y t') (k : IntKind) (m n : Int) (hx : a.eval x = .int k m) (hy : a.eval y = .int k n) (w : World) :
    (execOp a.eval o).run P w = .ok (.value (.bool (decide (m ≤ n)))) w := by
  unfold execOp
  simp [ho, hx, hy, eqGuard, binOp, Op.intCmp]
theorem putM_rel {M L s : Nat} {cs : List Nat} (h : L ≤ s / 3 ∧ atG L cs ((s / 3 : Nat) : Int) < 3) : putM M L cs s = relN M L cs s := if_pos h
end Go.Proofs.YtffdmfclakgocaaDoor.Wn
