/-
  Window states as cells: a number and a ring; what puts a block (a ring and a slot); '==' between window states. Over this seat's translation.
-/
import Derived.Test.YtbbmjjphkmjnbaaRingRefPut
import Derived.Test.YtbbmjjphkmjnbaaRingAwake
import Derived.Test.YtbbmjjphkmjnbaaRingLaws
import Derived.Test.YtbbmjjphkmjnbaaRingLaws2
namespace Go.Proofs.Ytbbmjjphkmjnbaa.Wn
open Go.ChangeShapes Go.WideShapes Go.ChangeAt Go.RowKit Go.Proofs.Ytbbmjjphkmjnbaa.Mem Go.Proofs.Ytbbmjjphkmjnbaa.Bt Go.Proofs.Ytbbmjjphkmjnbaa.Rg
set_option linter.unusedVariables false
set_option linter.unusedSimpArgs false

/-- A window state's cells. -/
def wcs (M L : Nat) (cs : List Nat) : List Value := .int .u32 (M : Int) :: rcs L cs
theorem wcs_len {M L : Nat} {cs : List Nat} (h : cs.length = 4) : (wcs M L cs).length = 6 := by unfold wcs; rw [List.length_cons, rcs_len h]
theorem wcs_one (M L : Nat) (cs : List Nat) : OneCells (wcs M L cs) := by
  intro v hv
  unfold wcs at hv
  rcases List.mem_cons.1 hv with rfl | hv
  · rfl
  · exact rcs_one _ _ v hv
theorem wcs_get0 (M L : Nat) (cs : List Nat) : (wcs M L cs)[0]? = some (.int .u32 (M : Int)) := rfl
theorem wcs_get1 (M L : Nat) (cs : List Nat) : (wcs M L cs)[1]? = some (.int .u32 (L : Int)) := rfl
theorem row_ring {w : World} {b : Nat} {t : TypeId} {M L : Nat} {cs : List Nat} (h : Row w b t (wcs M L cs)) : w.rangeAt b 1 (rcs L cs) := h.range 1 _ (fun j v hj => by unfold wcs; rw [Nat.add_comm, List.getElem?_cons_succ]; exact hj)
theorem wz_len : (wcs 0 0 [0, 0, 0, 0]).length = 6 := rfl
theorem z_win : Mem.Zero Try.prog 27 (wcs 0 0 [0, 0, 0, 0]) := by unfold Mem.Zero; kernel_rfl
theorem sz_win {M L : Nat} {cs : List Nat} (h : cs.length = 4) : Sized Try.prog 27 (wcs M L cs).length := by rw [wcs_len h]; exact ⟨.struct (Try.prog.fieldsOf 27), by kernel_rfl, rfl, by kernel_rfl⟩
theorem z_rwin : Mem.Zero Try.prog 33 (wcs 0 0 [0, 0, 0, 0]) := by unfold Mem.Zero; kernel_rfl
theorem sz_rwin {M L : Nat} {cs : List Nat} (h : cs.length = 4) : Sized Try.prog 33 (wcs M L cs).length := by rw [wcs_len h]; exact ⟨.struct (Try.prog.fieldsOf 33), by kernel_rfl, rfl, by kernel_rfl⟩
theorem built_win (M L : Nat) (cs : List Nat) (h : cs.length = 4) : Try.prog.built 27 [(0, .int .u32 (M : Int)), (1, .agg (rcs L cs).toArray)] = some (wcs M L cs).toArray := by
  obtain ⟨a, b, c, d, rfl⟩ := four h
  kernel_rfl
theorem built_rwin (M L : Nat) (cs : List Nat) (h : cs.length = 4) : Try.prog.built 33 [(0, .int .u32 (M : Int)), (1, .agg (rcs L cs).toArray)] = some (wcs M L cs).toArray := by
  obtain ⟨a, b, c, d, rfl⟩ := four h
  kernel_rfl
theorem fit5 {L : Nat} {cs : List Nat} (h : cs.length = 4) : 0 + (rcs L cs).length ≤ (rcs 0 [0, 0, 0, 0]).length := by rw [rcs_len h]; decide
theorem len5 {L : Nat} {cs : List Nat} (h : cs.length = 4) : (rcs L cs).length = (rcs 0 [0, 0, 0, 0]).length := by rw [rcs_len h]; rfl
theorem fit6 {M L : Nat} {cs : List Nat} (h : cs.length = 4) : 0 + (wcs M L cs).length ≤ (wcs 0 0 [0, 0, 0, 0]).length := by rw [wcs_len h]; decide
theorem len6 {M L : Nat} {cs : List Nat} (h : cs.length = 4) : (wcs M L cs).length = (wcs 0 0 [0, 0, 0, 0]).length := by rw [wcs_len h]; rfl
/-- The cells of what puts a block. -/
def pcs (L : Nat) (cs : List Nat) (s : Nat) : List Value := rcs L cs ++ [.int .u32 (s : Int)]
theorem pcs_len {L s : Nat} {cs : List Nat} (h : cs.length = 4) : (pcs L cs s).length = 6 := by unfold pcs; rw [List.length_append, rcs_len h]; rfl
theorem pcs_one (L s : Nat) (cs : List Nat) : OneCells (pcs L cs s) := by
  intro v hv
  unfold pcs at hv
  rcases List.mem_append.1 hv with hv | hv
  · exact rcs_one _ _ v hv
  · rw [List.mem_singleton.1 hv]; rfl
theorem pcs_get0 (L s : Nat) (cs : List Nat) : (pcs L cs s)[0]? = some (.int .u32 (L : Int)) := rfl
theorem pcs_get {L s : Nat} {cs : List Nat} {i : Nat} (h : i < cs.length) : (pcs L cs s)[1 + i]? = some (.int .u32 ((cs.getD i 0 : Nat) : Int)) := by
  have hl : 1 + i < (rcs L cs).length := by unfold rcs; rw [List.length_cons, u32s_length]; omega
  unfold pcs
  rw [List.getElem?_append_left hl, rcs_get h]
theorem pcs_getS {L s : Nat} {cs : List Nat} (h : cs.length = 4) : (pcs L cs s)[5]? = some (.int .u32 (s : Int)) := by
  unfold pcs
  rw [List.getElem?_append_right (by rw [rcs_len h]; omega), rcs_len h]
  rfl
theorem prow_ring {w : World} {b : Nat} {t : TypeId} {L s : Nat} {cs : List Nat} (h : Row w b t (pcs L cs s)) : w.rangeAt b 0 (rcs L cs) := h.range 0 _ (fun j v hj => by
  unfold pcs
  rw [Nat.zero_add, List.getElem?_append_left (List.getElem?_eq_some_iff.1 hj).1]
  exact hj)
theorem pcs_lay {L M s : Nat} {cs ds : List Nat} (h : cs.length = 4) (g : ds.length = 4) : lay (pcs L cs s) 0 (rcs M ds) = pcs M ds s := by
  obtain ⟨a, b, c, d, rfl⟩ := four h
  obtain ⟨x, y, z, u, rfl⟩ := four g
  rfl
theorem pz_len : (pcs 0 [0, 0, 0, 0] 0).length = 6 := rfl
theorem z_putter : Mem.Zero Try.prog 57 (pcs 0 [0, 0, 0, 0] 0) := by unfold Mem.Zero; kernel_rfl
theorem sz_putter {L s : Nat} {cs : List Nat} (h : cs.length = 4) : Sized Try.prog 57 (pcs L cs s).length := by rw [pcs_len h]; exact ⟨.struct (Try.prog.fieldsOf 57), by kernel_rfl, rfl, by kernel_rfl⟩
theorem built_putter (L s : Nat) (cs : List Nat) (h : cs.length = 4) : Try.prog.built 57 [(0, .agg (rcs L cs).toArray), (1, .int .u32 (s : Int))] = some (pcs L cs s).toArray := by
  obtain ⟨a, b, c, d, rfl⟩ := four h
  kernel_rfl

/-! ### '==' between the document's window states. -/
theorem part_min (M L : Nat) (cs : List Nat) (w : World) : (part 22 (wcs M L cs).toArray 0).run Try.prog w = .ok (.int .u32 (M : Int)) w := by
  have hu : Try.prog.underlying 22 = some (.int .u32) := by kernel_rfl
  simp [part, isAgg, run_underlying hu, wcs]
theorem part_ring (M L : Nat) (cs : List Nat) (h : cs.length = 4) (w : World) : (part 31 (wcs M L cs).toArray 1).run Try.prog w = .ok (.agg (rcs L cs).toArray) w := by
  have hu : Try.prog.underlying 31 = some (.struct (Try.prog.fieldsOf 31)) := by kernel_rfl
  have hs : (sizeOf 31).run Try.prog w = .ok 5 w := by kernel_rfl
  obtain ⟨a, b, c, d, rfl⟩ := four h
  simp [part, isAgg, run_underlying hu, wcs, rcs, u32s, hs]
/-- The two fields of a window state. -/
structure WFields (r : TypeId) (fs : List Field) : Prop where
  ex : ∃ f g : Field, fs = [f, g] ∧ f.name ≠ "_" ∧ f.type = 22 ∧ f.offset = 0 ∧ g.name ≠ "_" ∧ g.type = r ∧ g.offset = 1
theorem wfields_of {r : TypeId} {fs : List Field} (h : fs.map (fun f => (f.name, f.type, f.offset)) = [("Min", 22, 0), ("Ring", r, 1)]) : WFields r fs := by
  have hl : fs.length = 2 := by have := congrArg List.length h; simpa using this
  match fs, hl with
  | [f, g], _ =>
    simp only [List.map_cons, List.map_nil, List.cons.injEq, Prod.mk.injEq, and_true] at h
    obtain ⟨⟨h1, h2, h3⟩, h4, h5, h6⟩ := h
    exact ⟨f, g, rfl, by rw [h1]; decide, h2, h3, by rw [h4]; decide, h5, h6⟩
theorem fields_win : WFields 25 (Try.prog.fieldsOf 27).toList := wfields_of (by kernel_rfl)
theorem fields_rwin : WFields 31 (Try.prog.fieldsOf 33).toList := wfields_of (by kernel_rfl)
theorem eq_rwin (d M L K J : Nat) (xs ys : List Nat) (hx : xs.length = 4) (hy : ys.length = 4) (w : World) :
    (Op.equalIn (d + 4) 33 (.agg (wcs M L xs).toArray) (.agg (wcs K J ys).toArray)).run Try.prog w = .ok (decide (M = K ∧ L = J ∧ xs = ys)) w := by
  rw [run_equalIn_struct w (d + 3) 33 _ _ (by kernel_rfl) (by kernel_rfl)]
  obtain ⟨f, g, hfs, n1, t1, o1, n2, t2, o2⟩ := fields_rwin.ex
  rw [hfs]
  simp only [Op.eqFields, n1, n2, ne_eq, not_false_eq_true, if_true, t1, t2, o1, o2, Sem.run_bind, part_min, Result.andThen_ok, eq_num]
  by_cases h1 : M = K
  · by_cases h2 : L = J ∧ xs = ys
    · obtain ⟨rfl, rfl⟩ := h2
      simp [h1, part_ring _ _ _ hx, eq_rref d L L xs xs hx hx]
    · simp [h1, h2, part_ring _ _ _ hx, part_ring _ _ _ hy, eq_rref d L J xs ys hx hy]
  · simp [h1]
section
variable {o : Oper} {a : Act}
theorem run_op_eqlW (x y : Operand) (t' : TypeId) (ho : o.op = .binOp .eql 33 x y t') (M L K J : Nat) (xs ys : List Nat) (hlx : xs.length = 4) (hly : ys.length = 4) (hx : a.eval x = .agg (wcs M L xs).toArray) (hy : a.eval y = .agg (wcs K J ys).toArray) (w : World) :
    (execOp a.eval o).run Try.prog w = .ok (.value (.bool (decide (M = K ∧ L = J ∧ xs = ys)))) w := by
  unfold execOp
  simp only [ho, hx, hy, Sem.run_bind, run_eqGuard_agg w _ _ _ _ _ _ (show Try.prog.eqGuardType Try.prog.depth 33 = false by kernel_rfl), Result.andThen_ok, binOp, Op.equal, Op.maxDepth, eq_rwin 9996 M L K J xs ys hlx hly w, Sem.run_pure]
theorem run_op_neqW (x y : Operand) (t' : TypeId) (ho : o.op = .binOp .neq 33 x y t') (M L K J : Nat) (xs ys : List Nat) (hlx : xs.length = 4) (hly : ys.length = 4) (hx : a.eval x = .agg (wcs M L xs).toArray) (hy : a.eval y = .agg (wcs K J ys).toArray) (w : World) :
    (execOp a.eval o).run Try.prog w = .ok (.value (.bool (!decide (M = K ∧ L = J ∧ xs = ys)))) w := by
  unfold execOp
  simp only [ho, hx, hy, Sem.run_bind, run_eqGuard_agg w _ _ _ _ _ _ (show Try.prog.eqGuardType Try.prog.depth 33 = false by kernel_rfl), Result.andThen_ok, binOp, Op.equal, Op.maxDepth, eq_rwin 9996 M L K J xs ys hlx hly w, Sem.run_pure]
end

/-! ### What is told of window states. -/
/-- A window state that may be. -/
def WRt (M L : Nat) (cs : List Nat) : Prop := M ≤ 12 ∧ Rt L cs
instance (M L : Nat) (cs : List Nat) : Decidable (WRt M L cs) := by unfold WRt; exact inferInstance
/-- The least density as of a slot. -/
def relN (M L : Nat) (cs : List Nat) (s : Nat) : Nat := if s < 12 ∨ s / 3 ≤ L then M else min M (befN L cs (s / 3))
theorem relN_le (M L : Nat) (cs : List Nat) (s : Nat) : relN M L cs s ≤ M := by unfold relN; split <;> omega
/-- Min, with one block more. -/
def putM (M L : Nat) (cs : List Nat) (s : Nat) : Nat := if L ≤ s / 3 ∧ atG L cs ((s / 3 : Nat) : Int) < 3 then relN M L cs s else 0
theorem atG_own {L : Nat} {cs : List Nat} (h : Rt L cs) : 1 ≤ atG L cs (L : Int) := by
  rw [atG_in (by omega) (by omega), show ((L : Int) % 4).toNat = L % 4 by omega]
  exact h.2
/-- The only one of its sub-window, just where the sub-window is a new one. -/
theorem putd_alone {L s : Nat} {cs : List Nat} (h : Rt L cs) (hs : L ≤ s) : (putd L cs s).getD (s % 4) 0 = 1 ↔ L < s := by
  have e : (putd L cs s).getD (s % 4) 0 = atG L cs (s : Int) + 1 := by
    unfold putd
    rw [set_getD _ _ _ _ (by rw [mvd_len]; omega), if_pos rfl]
  rw [e]
  rcases Nat.lt_or_ge L s with h1 | h1
  · rw [atG_out (by omega)]; omega
  · have : s = L := by omega
    subst this
    have := atG_own h
    omega
end Go.Proofs.Ytbbmjjphkmjnbaa.Wn
