import Derived.Test.YtnjmocobncncdaaGreatDoorRingAll
import Derived.Deep.DeepCutAuto
/-
  Window states as cells: a number and a ring; what puts a block (a ring and a slot); '==' between window states. Over this seat's translation.
-/
namespace Go.Proofs.YtnjmocobncncdaaGreatDoor.Wn
open Go.ChangeShapes Go.WideShapes Go.ChangeAt Go.RowKit Go.Proofs.YtnjmocobncncdaaGreatDoor.Mem Go.Proofs.YtnjmocobncncdaaGreatDoor.Bt Go.Proofs.YtnjmocobncncdaaGreatDoor.Rg
set_option linter.unusedVariables false
set_option linter.unusedSimpArgs false

/-- A window state's cells. -/
def wcs (M L : Nat) (cs : List Nat) : List Value := .int .u32 (M : Int) :: rcs L cs
theorem wcs_len {M L : Nat} {cs : List Nat} (h : cs.length = 4) : (wcs M L cs).length = 6 := by unfold wcs; rw [List.length_cons, rcs_len h]
theorem wcs_one (M L : Nat) (cs : List Nat) : OneCells (wcs M L cs) := by
  intro v hv
  unfold wcs at hv
  rcases List.mem_cons.1 hv with rfl | hv
  · rfl
  · exact rcs_one _ _ v hv
theorem built_rwin (M L : Nat) (cs : List Nat) (h : cs.length = 4) : Tryz.prog.built 50 [(0, .int .u32 (M : Int)), (1, .agg (rcs L cs).toArray)] = some (wcs M L cs).toArray := by
  obtain ⟨a, b, c, d, rfl⟩ := four h
  kernel_rfl
/-- The cells of what puts a block. -/
def pcs (L : Nat) (cs : List Nat) (s : Nat) : List Value := rcs L cs ++ [.int .u32 (s : Int)]
theorem pcs_len {L s : Nat} {cs : List Nat} (h : cs.length = 4) : (pcs L cs s).length = 6 := by unfold pcs; rw [List.length_append, rcs_len h]; rfl
theorem pcs_one (L s : Nat) (cs : List Nat) : OneCells (pcs L cs s) := by
  intro v hv
  unfold pcs at hv
  rcases List.mem_append.1 hv with hv | hv
  · exact rcs_one _ _ v hv
  · rw [List.mem_singleton.1 hv]; rfl
theorem part_min (M L : Nat) (cs : List Nat) (w : World) : (part 33 (wcs M L cs).toArray 0).run Tryz.prog w = .ok (.int .u32 (M : Int)) w := by
  have hu : Tryz.prog.underlying 33 = some (.int .u32) := by kernel_rfl
  simp [part, isAgg, run_underlying hu, wcs]
theorem part_ring (M L : Nat) (cs : List Nat) (h : cs.length = 4) (w : World) : (part 48 (wcs M L cs).toArray 1).run Tryz.prog w = .ok (.agg (rcs L cs).toArray) w := by
  have hu : Tryz.prog.underlying 48 = some (.struct (Tryz.prog.fieldsOf 48)) := by kernel_rfl
  have hs : (sizeOf 48).run Tryz.prog w = .ok 5 w := by kernel_rfl
  obtain ⟨a, b, c, d, rfl⟩ := four h
  simp [part, isAgg, run_underlying hu, wcs, rcs, u32s, hs]
/-- The two fields of a window state. -/
structure WFields (r : TypeId) (fs : List Field) : Prop where
  ex : ∃ f g : Field, fs = [f, g] ∧ f.name ≠ "_" ∧ f.type = 33 ∧ f.offset = 0 ∧ g.name ≠ "_" ∧ g.type = r ∧ g.offset = 1
theorem wfields_of {r : TypeId} {fs : List Field} (h : fs.map (fun f => (f.name, f.type, f.offset)) = [("Min", 33, 0), ("Ring", r, 1)]) : WFields r fs := by
  have hl : fs.length = 2 := by have := congrArg List.length h; simpa using this
  match fs, hl with
  | [f, g], _ =>
    simp only [List.map_cons, List.map_nil, List.cons.injEq, Prod.mk.injEq, and_true] at h
    obtain ⟨⟨h1, h2, h3⟩, h4, h5, h6⟩ := h
    exact ⟨f, g, rfl, by rw [h1]; decide, h2, h3, by rw [h4]; decide, h5, h6⟩
theorem fields_rwin : WFields 48 (Tryz.prog.fieldsOf 50).toList := wfields_of (by kernel_rfl)
theorem eq_rwin (d M L K J : Nat) (xs ys : List Nat) (hx : xs.length = 4) (hy : ys.length = 4) (w : World) :
    (Op.equalIn (d + 4) 50 (.agg (wcs M L xs).toArray) (.agg (wcs K J ys).toArray)).run Tryz.prog w = .ok (decide (M = K ∧ L = J ∧ xs = ys)) w := by
  rw [run_equalIn_struct w (d + 3) 50 _ _ (by kernel_rfl) (by kernel_rfl)]
  obtain ⟨f, g, hfs, n1, t1, o1, n2, t2, o2⟩ := fields_rwin.ex
  rw [hfs]
  simp only [Op.eqFields, n1, n2, ne_eq, not_false_eq_true, if_true, t1, t2, o1, o2, Sem.run_bind, part_min, Result.andThen_ok, eq_num]
  by_cases h1 : M = K
  · by_cases h2 : L = J ∧ xs = ys
    · obtain ⟨rfl, rfl⟩ := h2
      simp [h1, part_ring _ _ _ hx, eq_rref d L L xs xs hx hx]
    · simp [h1, h2, part_ring _ _ _ hx, part_ring _ _ _ hy, eq_rref d L J xs ys hx hy]
  · simp [h1]
section
variable {o : Oper} {a : Act}
theorem run_op_eqlW (x y : Operand) (t' : TypeId) (ho : o.op = .binOp .eql 50 x y t') (M L K J : Nat) (xs ys : List Nat) (hlx : xs.length = 4) (hly : ys.length = 4) (hx : a.eval x = .agg (wcs M L xs).toArray) (hy : a.eval y = .agg (wcs K J ys).toArray) (w : World) :
    (execOp a.eval o).run Tryz.prog w = .ok (.value (.bool (decide (M = K ∧ L = J ∧ xs = ys)))) w := by
  unfold execOp
  simp only [ho, hx, hy, Sem.run_bind, run_eqGuard_agg w _ _ _ _ _ _ (show Tryz.prog.eqGuardType Tryz.prog.depth 50 = false by kernel_rfl), Result.andThen_ok, binOp, Op.equal, Op.maxDepth, eq_rwin 9996 M L K J xs ys hlx hly w, Sem.run_pure]
theorem run_op_neqW (x y : Operand) (t' : TypeId) (ho : o.op = .binOp .neq 50 x y t') (M L K J : Nat) (xs ys : List Nat) (hlx : xs.length = 4) (hly : ys.length = 4) (hx : a.eval x = .agg (wcs M L xs).toArray) (hy : a.eval y = .agg (wcs K J ys).toArray) (w : World) :
    (execOp a.eval o).run Tryz.prog w = .ok (.value (.bool (!decide (M = K ∧ L = J ∧ xs = ys)))) w := by
  unfold execOp
  simp only [ho, hx, hy, Sem.run_bind, run_eqGuard_agg w _ _ _ _ _ _ (show Tryz.prog.eqGuardType Tryz.prog.depth 50 = false by kernel_rfl), Result.andThen_ok, binOp, Op.equal, Op.maxDepth, eq_rwin 9996 M L K J xs ys hlx hly w, Sem.run_pure]
end

/-- A window state that may be. -/
def WRt (M L : Nat) (cs : List Nat) : Prop := M ≤ 12 ∧ Rt L cs
instance (M L : Nat) (cs : List Nat) : Decidable (WRt M L cs) := by unfold WRt; exact inferInstance
/-- The least density as of a slot. -/
def relN (M L : Nat) (cs : List Nat) (s : Nat) : Nat := if s < 12 ∨ s / 3 ≤ L then M else min M (befN L cs (s / 3))
/-- Min, with one block more. -/
def putM (M L : Nat) (cs : List Nat) (s : Nat) : Nat := if L ≤ s / 3 ∧ atG L cs ((s / 3 : Nat) : Int) < 3 then relN M L cs s else 0
end Go.Proofs.YtnjmocobncncdaaGreatDoor.Wn

/-
  The contracts of package window's leaves: Genesis, Right, and what tells of a block that was put. Over this seat's translation.
-/
namespace Go.Proofs.YtnjmocobncncdaaGreatDoor.Wn
open Go.ChangeShapes Go.WideShapes Go.ChangeAt Go.RowKit Go.Proofs.YtnjmocobncncdaaGreatDoor.Mem Go.Proofs.YtnjmocobncncdaaGreatDoor.Bt Go.Proofs.YtnjmocobncncdaaGreatDoor.Rg
set_option linter.unusedVariables false
set_option linter.unusedSimpArgs false

end Go.Proofs.YtnjmocobncncdaaGreatDoor.Wn

/-
  The contract of what puts a block into the ring that it embeds. Over this seat's translation.
-/
namespace Go.Proofs.YtnjmocobncncdaaGreatDoor.Wn
open Go.ChangeShapes Go.WideShapes Go.ChangeAt Go.RowKit Go.Proofs.YtnjmocobncncdaaGreatDoor.Mem Go.Proofs.YtnjmocobncncdaaGreatDoor.Bt Go.Proofs.YtnjmocobncncdaaGreatDoor.Rg
set_option linter.unusedVariables false
set_option linter.unusedSimpArgs false

end Go.Proofs.YtnjmocobncncdaaGreatDoor.Wn

/-
  The contracts of package window's Put and Relative. Over this seat's translation.
-/
namespace Go.Proofs.YtnjmocobncncdaaGreatDoor.Wn
open Go.ChangeShapes Go.WideShapes Go.ChangeAt Go.RowKit Go.Proofs.YtnjmocobncncdaaGreatDoor.Mem Go.Proofs.YtnjmocobncncdaaGreatDoor.Bt Go.Proofs.YtnjmocobncncdaaGreatDoor.Rg
set_option linter.unusedVariables false
set_option linter.unusedSimpArgs false

end Go.Proofs.YtnjmocobncncdaaGreatDoor.Wn

/-
  The contracts of the document's Relative and Put for window states. Over this seat's translation.
-/
namespace Go.Proofs.YtnjmocobncncdaaGreatDoor.Wn
open Go.ChangeShapes Go.WideShapes Go.ChangeAt Go.RowKit Go.Proofs.YtnjmocobncncdaaGreatDoor.Mem Go.Proofs.YtnjmocobncncdaaGreatDoor.Bt Go.Proofs.YtnjmocobncncdaaGreatDoor.Rg
set_option linter.unusedVariables false
set_option linter.unusedSimpArgs false

end Go.Proofs.YtnjmocobncncdaaGreatDoor.Wn
