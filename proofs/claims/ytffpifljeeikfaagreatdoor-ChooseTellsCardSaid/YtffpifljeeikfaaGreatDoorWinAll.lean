import Derived.Test.YtffpifljeeikfaaGreatDoorRingAll
import Derived.Deep.DeepCutAuto
/-
  Window states as cells: a number and a ring; what puts a block (a ring and a slot); '==' between window states. Over this seat's translation.
-/
namespace Go.Proofs.YtffpifljeeikfaaGreatDoor.Wn
open Go.ChangeShapes Go.WideShapes Go.ChangeAt Go.RowKit Go.Proofs.YtffpifljeeikfaaGreatDoor.Mem Go.Proofs.YtffpifljeeikfaaGreatDoor.Bt Go.Proofs.YtffpifljeeikfaaGreatDoor.Rg
set_option linter.unusedVariables false
set_option linter.unusedSimpArgs false

/-- A window state's cells. -/
def wcs (M L : Nat) (cs : List Nat) : List Value := .int .u32 (M : Int) :: rcs L cs
theorem wcs_len {M L : Nat} {cs : List Nat} (h : cs.length = 4) : (wcs M L cs).length = 6 := by unfold wcs; rw [List.length_cons, rcs_len h]
theorem wcs_one (M L : Nat) (cs : List Nat) : OneCells (wcs M L cs) := by
  intro v hv
  unfold wcs at hv
  rcases List.mem_cons.1 hv with rfl | hv
  · rfl
  · exact rcs_one _ _ v hv
theorem wcs_get0 (M L : Nat) (cs : List Nat) : (wcs M L cs)[0]? = some (.int .u32 (M : Int)) := rfl
theorem wcs_get1 (M L : Nat) (cs : List Nat) : (wcs M L cs)[1]? = some (.int .u32 (L : Int)) := rfl
theorem row_ring {w : World} {b : Nat} {t : TypeId} {M L : Nat} {cs : List Nat} (h : Row w b t (wcs M L cs)) : w.rangeAt b 1 (rcs L cs) := h.range 1 _ (fun j v hj => by unfold wcs; rw [Nat.add_comm, List.getElem?_cons_succ]; exact hj)
theorem wz_len : (wcs 0 0 [0, 0, 0, 0]).length = 6 := rfl
theorem z_win : Mem.Zero Tryz.prog 29 (wcs 0 0 [0, 0, 0, 0]) := by unfold Mem.Zero; kernel_rfl
theorem sz_win {M L : Nat} {cs : List Nat} (h : cs.length = 4) : Sized Tryz.prog 29 (wcs M L cs).length := by rw [wcs_len h]; exact ⟨.struct (Tryz.prog.fieldsOf 29), by kernel_rfl, rfl, by kernel_rfl⟩
theorem z_rwin : Mem.Zero Tryz.prog 44 (wcs 0 0 [0, 0, 0, 0]) := by unfold Mem.Zero; kernel_rfl
theorem sz_rwin {M L : Nat} {cs : List Nat} (h : cs.length = 4) : Sized Tryz.prog 44 (wcs M L cs).length := by rw [wcs_len h]; exact ⟨.struct (Tryz.prog.fieldsOf 44), by kernel_rfl, rfl, by kernel_rfl⟩
theorem built_win (M L : Nat) (cs : List Nat) (h : cs.length = 4) : Tryz.prog.built 29 [(0, .int .u32 (M : Int)), (1, .agg (rcs L cs).toArray)] = some (wcs M L cs).toArray := by
  obtain ⟨a, b, c, d, rfl⟩ := four h
  kernel_rfl
theorem built_rwin (M L : Nat) (cs : List Nat) (h : cs.length = 4) : Tryz.prog.built 44 [(0, .int .u32 (M : Int)), (1, .agg (rcs L cs).toArray)] = some (wcs M L cs).toArray := by
  obtain ⟨a, b, c, d, rfl⟩ := four h
  kernel_rfl
theorem fit5 {L : Nat} {cs : List Nat} (h : cs.length = 4) : 0 + (rcs L cs).length ≤ (rcs 0 [0, 0, 0, 0]).length := by rw [rcs_len h]; decide
theorem len5 {L : Nat} {cs : List Nat} (h : cs.length = 4) : (rcs L cs).length = (rcs 0 [0, 0, 0, 0]).length := by rw [rcs_len h]; rfl
theorem fit6 {M L : Nat} {cs : List Nat} (h : cs.length = 4) : 0 + (wcs M L cs).length ≤ (wcs 0 0 [0, 0, 0, 0]).length := by rw [wcs_len h]; decide
theorem len6 {M L : Nat} {cs : List Nat} (h : cs.length = 4) : (wcs M L cs).length = (wcs 0 0 [0, 0, 0, 0]).length := by rw [wcs_len h]; rfl
/-- The cells of what puts a block. -/
def pcs (L : Nat) (cs : List Nat) (s : Nat) : List Value := rcs L cs ++ [.int .u32 (s : Int)]
theorem pcs_len {L s : Nat} {cs : List Nat} (h : cs.length = 4) : (pcs L cs s).length = 6 := by unfold pcs; rw [List.length_append, rcs_len h]; rfl
theorem pcs_one (L s : Nat) (cs : List Nat) : OneCells (pcs L cs s) := by
  intro v hv
  unfold pcs at hv
  rcases List.mem_append.1 hv with hv | hv
  · exact rcs_one _ _ v hv
  · rw [List.mem_singleton.1 hv]; rfl
theorem pcs_get0 (L s : Nat) (cs : List Nat) : (pcs L cs s)[0]? = some (.int .u32 (L : Int)) := rfl
theorem pcs_get {L s : Nat} {cs : List Nat} {i : Nat} (h : i < cs.length) : (pcs L cs s)[1 + i]? = some (.int .u32 ((cs.getD i 0 : Nat) : Int)) := by
  have hl : 1 + i < (rcs L cs).length := by unfold rcs; rw [List.length_cons, u32s_length]; omega
  unfold pcs
  rw [List.getElem?_append_left hl, rcs_get h]
theorem pcs_getS {L s : Nat} {cs : List Nat} (h : cs.length = 4) : (pcs L cs s)[5]? = some (.int .u32 (s : Int)) := by
  unfold pcs
  rw [List.getElem?_append_right (by rw [rcs_len h]; omega), rcs_len h]
  rfl
theorem prow_ring {w : World} {b : Nat} {t : TypeId} {L s : Nat} {cs : List Nat} (h : Row w b t (pcs L cs s)) : w.rangeAt b 0 (rcs L cs) := h.range 0 _ (fun j v hj => by
  unfold pcs
  rw [Nat.zero_add, List.getElem?_append_left (List.getElem?_eq_some_iff.1 hj).1]
  exact hj)
theorem pcs_lay {L M s : Nat} {cs ds : List Nat} (h : cs.length = 4) (g : ds.length = 4) : lay (pcs L cs s) 0 (rcs M ds) = pcs M ds s := by
  obtain ⟨a, b, c, d, rfl⟩ := four h
  obtain ⟨x, y, z, u, rfl⟩ := four g
  rfl
theorem pz_len : (pcs 0 [0, 0, 0, 0] 0).length = 6 := rfl
theorem z_putter : Mem.Zero Tryz.prog 108 (pcs 0 [0, 0, 0, 0] 0) := by unfold Mem.Zero; kernel_rfl
theorem sz_putter {L s : Nat} {cs : List Nat} (h : cs.length = 4) : Sized Tryz.prog 108 (pcs L cs s).length := by rw [pcs_len h]; exact ⟨.struct (Tryz.prog.fieldsOf 108), by kernel_rfl, rfl, by kernel_rfl⟩
theorem built_putter (L s : Nat) (cs : List Nat) (h : cs.length = 4) : Tryz.prog.built 108 [(0, .agg (rcs L cs).toArray), (1, .int .u32 (s : Int))] = some (pcs L cs s).toArray := by
  obtain ⟨a, b, c, d, rfl⟩ := four h
  kernel_rfl

/-! ### '==' between the document's window states. -/
theorem part_min (M L : Nat) (cs : List Nat) (w : World) : (part 24 (wcs M L cs).toArray 0).run Tryz.prog w = .ok (.int .u32 (M : Int)) w := by
  have hu : Tryz.prog.underlying 24 = some (.int .u32) := by kernel_rfl
  simp [part, isAgg, run_underlying hu, wcs]
theorem part_ring (M L : Nat) (cs : List Nat) (h : cs.length = 4) (w : World) : (part 42 (wcs M L cs).toArray 1).run Tryz.prog w = .ok (.agg (rcs L cs).toArray) w := by
  have hu : Tryz.prog.underlying 42 = some (.struct (Tryz.prog.fieldsOf 42)) := by kernel_rfl
  have hs : (sizeOf 42).run Tryz.prog w = .ok 5 w := by kernel_rfl
  obtain ⟨a, b, c, d, rfl⟩ := four h
  simp [part, isAgg, run_underlying hu, wcs, rcs, u32s, hs]
/-- The two fields of a window state. -/
structure WFields (r : TypeId) (fs : List Field) : Prop where
  ex : ∃ f g : Field, fs = [f, g] ∧ f.name ≠ "_" ∧ f.type = 24 ∧ f.offset = 0 ∧ g.name ≠ "_" ∧ g.type = r ∧ g.offset = 1
theorem wfields_of {r : TypeId} {fs : List Field} (h : fs.map (fun f => (f.name, f.type, f.offset)) = [("Min", 24, 0), ("Ring", r, 1)]) : WFields r fs := by
  have hl : fs.length = 2 := by have := congrArg List.length h; simpa using this
  match fs, hl with
  | [f, g], _ =>
    simp only [List.map_cons, List.map_nil, List.cons.injEq, Prod.mk.injEq, and_true] at h
    obtain ⟨⟨h1, h2, h3⟩, h4, h5, h6⟩ := h
    exact ⟨f, g, rfl, by rw [h1]; decide, h2, h3, by rw [h4]; decide, h5, h6⟩
theorem fields_win : WFields 27 (Tryz.prog.fieldsOf 29).toList := wfields_of (by kernel_rfl)
theorem fields_rwin : WFields 42 (Tryz.prog.fieldsOf 44).toList := wfields_of (by kernel_rfl)
theorem eq_rwin (d M L K J : Nat) (xs ys : List Nat) (hx : xs.length = 4) (hy : ys.length = 4) (w : World) :
    (Op.equalIn (d + 4) 44 (.agg (wcs M L xs).toArray) (.agg (wcs K J ys).toArray)).run Tryz.prog w = .ok (decide (M = K ∧ L = J ∧ xs = ys)) w := by
  rw [run_equalIn_struct w (d + 3) 44 _ _ (by kernel_rfl) (by kernel_rfl)]
  obtain ⟨f, g, hfs, n1, t1, o1, n2, t2, o2⟩ := fields_rwin.ex
  rw [hfs]
  simp only [Op.eqFields, n1, n2, ne_eq, not_false_eq_true, if_true, t1, t2, o1, o2, Sem.run_bind, part_min, Result.andThen_ok, eq_num]
  by_cases h1 : M = K
  · by_cases h2 : L = J ∧ xs = ys
    · obtain ⟨rfl, rfl⟩ := h2
      simp [h1, part_ring _ _ _ hx, eq_rref d L L xs xs hx hx]
    · simp [h1, h2, part_ring _ _ _ hx, part_ring _ _ _ hy, eq_rref d L J xs ys hx hy]
  · simp [h1]
section
variable {o : Oper} {a : Act}
theorem run_op_eqlW (x y : Operand) (t' : TypeId) (ho : o.op = .binOp .eql 44 x y t') (M L K J : Nat) (xs ys : List Nat) (hlx : xs.length = 4) (hly : ys.length = 4) (hx : a.eval x = .agg (wcs M L xs).toArray) (hy : a.eval y = .agg (wcs K J ys).toArray) (w : World) :
    (execOp a.eval o).run Tryz.prog w = .ok (.value (.bool (decide (M = K ∧ L = J ∧ xs = ys)))) w := by
  unfold execOp
  simp only [ho, hx, hy, Sem.run_bind, run_eqGuard_agg w _ _ _ _ _ _ (show Tryz.prog.eqGuardType Tryz.prog.depth 44 = false by kernel_rfl), Result.andThen_ok, binOp, Op.equal, Op.maxDepth, eq_rwin 9996 M L K J xs ys hlx hly w, Sem.run_pure]
theorem run_op_neqW (x y : Operand) (t' : TypeId) (ho : o.op = .binOp .neq 44 x y t') (M L K J : Nat) (xs ys : List Nat) (hlx : xs.length = 4) (hly : ys.length = 4) (hx : a.eval x = .agg (wcs M L xs).toArray) (hy : a.eval y = .agg (wcs K J ys).toArray) (w : World) :
    (execOp a.eval o).run Tryz.prog w = .ok (.value (.bool (!decide (M = K ∧ L = J ∧ xs = ys)))) w := by
  unfold execOp
  simp only [ho, hx, hy, Sem.run_bind, run_eqGuard_agg w _ _ _ _ _ _ (show Tryz.prog.eqGuardType Tryz.prog.depth 44 = false by kernel_rfl), Result.andThen_ok, binOp, Op.equal, Op.maxDepth, eq_rwin 9996 M L K J xs ys hlx hly w, Sem.run_pure]
end

/-! ### What is told of window states. -/
/-- A window state that may be. -/
def WRt (M L : Nat) (cs : List Nat) : Prop := M ≤ 12 ∧ Rt L cs
instance (M L : Nat) (cs : List Nat) : Decidable (WRt M L cs) := by unfold WRt; exact inferInstance
/-- The least density as of a slot. -/
def relN (M L : Nat) (cs : List Nat) (s : Nat) : Nat := if s < 12 ∨ s / 3 ≤ L then M else min M (befN L cs (s / 3))
theorem relN_le (M L : Nat) (cs : List Nat) (s : Nat) : relN M L cs s ≤ M := by unfold relN; split <;> omega
/-- Min, with one block more. -/
def putM (M L : Nat) (cs : List Nat) (s : Nat) : Nat := if L ≤ s / 3 ∧ atG L cs ((s / 3 : Nat) : Int) < 3 then relN M L cs s else 0
theorem atG_own {L : Nat} {cs : List Nat} (h : Rt L cs) : 1 ≤ atG L cs (L : Int) := by
  rw [atG_in (by omega) (by omega), show ((L : Int) % 4).toNat = L % 4 by omega]
  exact h.2
/-- The only one of its sub-window, just where the sub-window is a new one. -/
theorem putd_alone {L s : Nat} {cs : List Nat} (h : Rt L cs) (hs : L ≤ s) : (putd L cs s).getD (s % 4) 0 = 1 ↔ L < s := by
  have e : (putd L cs s).getD (s % 4) 0 = atG L cs (s : Int) + 1 := by
    unfold putd
    rw [set_getD _ _ _ _ (by rw [mvd_len]; omega), if_pos rfl]
  rw [e]
  rcases Nat.lt_or_ge L s with h1 | h1
  · rw [atG_out (by omega)]; omega
  · have : s = L := by omega
    subst this
    have := atG_own h
    omega
end Go.Proofs.YtffpifljeeikfaaGreatDoor.Wn

/-
  The contracts of package window's leaves: Genesis, Right, and what tells of a block that was put. Over this seat's translation.
-/
namespace Go.Proofs.YtffpifljeeikfaaGreatDoor.Wn
open Go.ChangeShapes Go.WideShapes Go.ChangeAt Go.RowKit Go.Proofs.YtffpifljeeikfaaGreatDoor.Mem Go.Proofs.YtffpifljeeikfaaGreatDoor.Bt Go.Proofs.YtffpifljeeikfaaGreatDoor.Rg
set_option linter.unusedVariables false
set_option linter.unusedSimpArgs false

theorem wgenesis_any (w : World) : Calls Tryz.prog 27 #[] w fun e w' => e = .returned (.agg (wcs 12 0 [1, 3, 3, 3]).toArray) ∧ Below w.heap.size w w' := by
  go_enter Tryz.func27, Tryz.ntmps27
  go_wp2_with (first
    | ((with_reducible refine at_slot 0 ?_); (refine arm_alloc (o := ⟨some 0, _, _, _, _, _⟩) rfl _ rfl (wcs 0 0 [0, 0, 0, 0]) z_win ?_); intro R wa Re hwa nwa))
  refine (Rg.genesis_any _).mono ?_
  rintro e wb ⟨rfl, hB⟩
  have rR := hwa.old hB
  go_wp2_with (first
    | ((with_reducible refine at_slot 2 ?_); (refine arm_build (o := ⟨some 2, _, _, _, _, _⟩) rfl _ _ rfl (wcs 12 0 [1, 3, 3, 3]) (by kernel_rfl) ?_))
    | ((with_reducible refine arm_store (o := ⟨none, _, _, _, _, _⟩) rfl _ _ _ rfl R 0 rfl (wcs 12 0 [1, 3, 3, 3]) rfl _ _ (rR) (by rw [wcs_len rfl, wz_len]; omega) (wcs_one _ _ _) (sz_win rfl) ?_); intro wc hwc owc swc))
  have eR := Re.out; have sR := nwa.size; have tR := hB.size
  refine bodyPost_ret (v := .agg (wcs 12 0 [1, 3, 3, 3]).toArray) (result_row (p := 0) (ty := 29) (u := 29) (by kernel_rfl) _ wc R _ rfl (hwc.congr (lay_all _ _ (by rw [wcs_len rfl, wz_len]))) (sz_win rfl)) rfl ⟨rfl, below_only (below_step nwa.below (by omega) hB) owc (by omega) (by omega)⟩
theorem rwright_any (M L : Nat) (cs : List Nat) (w : World) (hM : M < 4294967296) (hL : L < 4294967296) (hl : cs.length = 4) :
    Calls Tryz.prog 36 #[.agg (wcs M L cs).toArray] w fun e w' => e = .returned (.bool (decide (WRt M L cs))) ∧ Below w.heap.size w w' := by
  have HL := Lib.hid hl; clear hl
  obtain ⟨v, hv⟩ : ∃ v : Bool, v = decide (WRt M L cs) := ⟨_, rfl⟩
  rw [← hv]
  by_cases hm : M ≤ 12
  · have hd : decide ((M : Int) ≤ 12) = true := decide_eq_true (by omega)
    have hq : decide (Rt L cs) = v := by rw [hv]; exact decide_eq_decide.2 ⟨fun h => ⟨hm, h⟩, fun h => h.2⟩
    have HQ := Lib.hid hq
    clear hv hq
    go_enter Tryz.func36, Tryz.ntmps36
    go_wp2_with (first
      | ((with_reducible refine at_slot 1 ?_); (refine arm_box (o := ⟨some 1, _, _, _, _, _⟩) rfl _ _ rfl (wcs M L cs) rfl ?_); intro B wa Be hwa nwa; have cB := hwa.cell (wcs_get0 M L cs))
      | ((with_reducible refine at_slot 8 ?_); (refine arm_want ((.agg (rcs L cs).toArray)) 8 rfl (by kernel_rfl) (run_op_load _ _ rfl B 1 rfl (rcs L cs) (row_ring hwa) (sz_rref' HL.out)) ?_)))
    refine (Rg.rright_any L cs _ hL HL.out).mono ?_
    rw [HQ.out]
    rintro e wb ⟨rfl, hB⟩
    go_wp2_with fail
    go_ret
    exact ⟨rfl, below_step nwa.below nwa.below.size hB⟩
  · have hd : decide ((M : Int) ≤ 12) = false := decide_eq_false (by omega)
    obtain rfl : v = false := by rw [hv]; exact decide_eq_false (fun h => hm h.1)
    clear hv
    go_enter Tryz.func36, Tryz.ntmps36
    go_wp2_with (first
      | ((with_reducible refine at_slot 1 ?_); (refine arm_box (o := ⟨some 1, _, _, _, _, _⟩) rfl _ _ rfl (wcs M L cs) rfl ?_); intro B wa Be hwa nwa; have cB := hwa.cell (wcs_get0 M L cs)))
    go_ret
    exact ⟨rfl, nwa.below⟩
set_option maxHeartbeats 2000000 in
set_option maxRecDepth 100000 in
theorem alone_any (P L s : Nat) (cs : List Nat) (w : World) (hr : Row w P 108 (pcs L cs s)) (hL : L < 4294967296) (hl : cs.length = 4) :
    Calls Tryz.prog 72 #[.pointer (some ⟨P, 0, none⟩)] w fun e w' => e = .returned (.bool (decide (cs.getD (L % 4) 0 = 1))) ∧ Below w.heap.size w w' := by
  have HL := Lib.hid hl; clear hl
  have hj : L % 4 < 4 := by omega
  have hxg := pcs_get (L := L) (s := s) (cs := cs) (i := L % 4) (by rw [HL.out]; exact hj)
  obtain ⟨v, hv⟩ : ∃ v : Bool, v = decide (cs.getD (L % 4) 0 = 1) := ⟨_, rfl⟩
  rw [← hv]
  have C := ringB_any L
  generalize L % 4 = j at hj hxg hv C
  generalize cs.getD j 0 = x at hxg hv
  have HV : Hid (((x : Int) == 1) = v) := by
    rw [hv]
    by_cases h : x = 1
    · rw [h]; rfl
    · rw [decide_eq_false h]; exact beq_eq_false_iff_ne.2 (by omega)
  have HX := Lib.hid hxg
  clear hv hxg
  go_enter Tryz.func72, Tryz.ntmps72
  go_wp2_with fail
  refine wp_region_held (S := fun w' => Below w.drew.heap.size w.drew w') (by kernel_rfl) ?_
  change wpAnyH _ _ _ _ _ _ _ _ w.drew
  have rz : Row w.drew P 108 (pcs L cs s) := hr
  have belz : Below w.heap.size w w.drew := (Below.refl _ _).drew
  generalize w.drew = wz at rz belz ⊢
  clear hr
  have hS : Below wz.heap.size wz wz := Below.refl _ _
  refine h_take 0 (.pointer (some ⟨P, 0, none⟩)) rfl 3 rfl (by kernel_rfl) (by kernel_rfl) (by kernel_rfl) (by kernel_rfl) (fun _ _ _ h => h) (fun w' _ => by kernel_rfl) hS ?_
  simp only [Act.put, List.setIfInBounds_toArray, List.set_cons_zero, List.set_cons_succ]
  refine h_take 1 (.pointer (some ⟨P, 0, none⟩)) rfl 4 rfl (by kernel_rfl) (by kernel_rfl) (by kernel_rfl) (by kernel_rfl) (fun _ _ _ h => h) (fun w' _ => by kernel_rfl) hS ?_
  simp only [Act.put, List.setIfInBounds_toArray, List.set_cons_zero, List.set_cons_succ]
  refine h_take 2 (.pointer (some ⟨P, 0, none⟩)) rfl 5 rfl (by kernel_rfl) (by kernel_rfl) (by kernel_rfl) (by kernel_rfl) (fun _ _ _ h => h) (fun w' _ => by kernel_rfl) hS ?_
  simp only [Act.put, List.setIfInBounds_toArray, List.set_cons_zero, List.set_cons_succ]
  refine h_take 3 (.pointer (some ⟨P, 0, none⟩)) rfl 6 rfl (by kernel_rfl) (by kernel_rfl) (by kernel_rfl) (by kernel_rfl) (fun _ _ _ h => h) (fun w' _ => by kernel_rfl) hS ?_
  simp only [Act.put, List.setIfInBounds_toArray, List.set_cons_zero, List.set_cons_succ]
  refine h_take 4 (.pointer (some ⟨P, 0, none⟩)) rfl 7 rfl (by kernel_rfl) (by kernel_rfl) (by kernel_rfl) (by kernel_rfl) (fun _ _ _ h => h) (fun w' _ => by kernel_rfl) hS ?_
  simp only [Act.put, List.setIfInBounds_toArray, List.set_cons_zero, List.set_cons_succ]
  refine h_take 5 (.int .u32 (L : Int)) rfl 8 rfl (by kernel_rfl) (by kernel_rfl) (by kernel_rfl) (by kernel_rfl) (fun _ _ _ h => h) (fun w' hC => run_op_load32 _ rfl _ rfl _ ((rz.old hC).cell (pcs_get0 L s cs))) hS ?_
  simp only [Act.put, List.setIfInBounds_toArray, List.set_cons_zero, List.set_cons_succ]
  refine h_take 7 (.pointer (some ⟨P, 0, none⟩)) rfl 10 rfl (by kernel_rfl) (by kernel_rfl) (by kernel_rfl) (by kernel_rfl) (fun _ _ _ h => h) (fun w' _ => by kernel_rfl) hS ?_
  simp only [Act.put, List.setIfInBounds_toArray, List.set_cons_zero, List.set_cons_succ]
  refine h_take 8 (.pointer (some ⟨P, 0, none⟩)) rfl 11 rfl (by kernel_rfl) (by kernel_rfl) (by kernel_rfl) (by kernel_rfl) (fun _ _ _ h => h) (fun w' _ => by kernel_rfl) hS ?_
  simp only [Act.put, List.setIfInBounds_toArray, List.set_cons_zero, List.set_cons_succ]
  refine h_take 9 (.pointer (some ⟨P, 1, none⟩)) rfl 12 rfl (by kernel_rfl) (by kernel_rfl) (by kernel_rfl) (by kernel_rfl) (fun _ _ _ h => h) (fun w' _ => by kernel_rfl) hS ?_
  simp only [Act.put, List.setIfInBounds_toArray, List.set_cons_zero, List.set_cons_succ]
  refine h_one (i := 6) (by kernel_rfl) (o_call rfl 9 rfl (by kernel_rfl) (run_op_call 93 _ _ rfl #[.int .u32 (L : Int)] (by simp only [List.map_toArray, List.map_cons, List.map_nil]; rfl) Tryz.func93 (by kernel_rfl) (by kernel_rfl) _) (C _ hL) ?_)
  rintro e y1 ⟨rfl, hB1⟩
  have hS1 : Below wz.heap.size wz y1 := below_step hS hS.size hB1
  refine ⟨_, rfl, hS1, ?_⟩
  clear hB1
  simp only [Act.put, List.setIfInBounds_toArray, List.set_cons_zero, List.set_cons_succ]
  refine h_take 10 (.pointer (some ⟨P, 1 + j, none⟩)) rfl 13 rfl (by kernel_rfl) (by kernel_rfl) (by kernel_rfl) (by kernel_rfl) (fun _ _ _ h => h) (fun w' _ => run_op_indexA _ _ _ rfl 4 24 (by kernel_rfl) (by kernel_rfl) P 1 rfl .i64 j rfl hj w') hS1 ?_
  simp only [Act.put, List.setIfInBounds_toArray, List.set_cons_zero, List.set_cons_succ]
  refine h_take 11 (.int .u32 (x : Int)) rfl 14 rfl (by kernel_rfl) (by kernel_rfl) (by kernel_rfl) (by kernel_rfl) (fun _ _ _ h => h) (fun w' hC => run_op_load32 _ rfl _ rfl _ ((rz.old hC).cell HX.out)) hS1 ?_
  simp only [Act.put, List.setIfInBounds_toArray, List.set_cons_zero, List.set_cons_succ]
  refine h_take 12 (.bool v) rfl 15 rfl (by kernel_rfl) (by kernel_rfl) (by kernel_rfl) (by kernel_rfl) (fun _ _ _ h => h) (fun w' _ => (run_op_eqlI _ _ .u32 (by kernel_rfl) _ _ rfl .u32 _ _ rfl rfl w').trans (by rw [HV.out])) hS1 ?_
  simp only [Act.put, List.setIfInBounds_toArray, List.set_cons_zero, List.set_cons_succ]
  refine h_take 13 (.bool v) rfl 2 rfl (by kernel_rfl) (by kernel_rfl) (by kernel_rfl) (by kernel_rfl) (fun _ _ _ h => h) (fun w' _ => by kernel_rfl) hS1 ?_
  simp only [Act.put, List.setIfInBounds_toArray, List.set_cons_zero, List.set_cons_succ]
  refine wpAnyH_done (by kernel_rfl) ?_ _
  have belF := below_step belz belz.size hS1
  go_wp2_with fail
  go_ret
  exact ⟨rfl, belF⟩
theorem looks_any (P L s : Nat) (cs : List Nat) (w : World) (hr : Row w P 108 (pcs L cs s)) (hL : L < 4294967296) (hs : s < 4294967296) (hl : cs.length = 4) :
    Calls Tryz.prog 52 #[.pointer (some ⟨P, 0, none⟩)] w fun e w' => e = .returned (.bool (decide (12 ≤ s ∧ cs.getD (L % 4) 0 = 1))) ∧ Below w.heap.size w w' := by
  have cS := hr.cell (pcs_getS (L := L) (s := s) hl)
  have C := Lib.hid (alone_any P L s cs w hr hL hl)
  obtain ⟨v, hv⟩ : ∃ v : Bool, v = decide (12 ≤ s ∧ cs.getD (L % 4) 0 = 1) := ⟨_, rfl⟩
  rw [← hv]
  by_cases h12 : 12 ≤ s
  · have hd : decide ((12 : Int) ≤ (s : Int)) = true := decide_eq_true (by omega)
    have hq : decide (cs.getD (L % 4) 0 = 1) = v := by rw [hv]; exact decide_eq_decide.2 ⟨fun h => ⟨h12, h⟩, fun h => h.2⟩
    rw [hq] at C
    clear hv hq
    go_enter Tryz.func52, Tryz.ntmps52
    go_wp2_with fail
    refine C.out.mono ?_
    rintro e wb ⟨rfl, hB⟩
    go_wp2_with fail
    go_ret
    exact ⟨rfl, hB⟩
  · have hd : decide ((12 : Int) ≤ (s : Int)) = false := decide_eq_false (by omega)
    obtain rfl : v = false := by rw [hv]; exact decide_eq_false (fun h => h12 h.1)
    clear hv
    go_enter Tryz.func52, Tryz.ntmps52
    go_wp2_with fail
    go_ret
    exact ⟨rfl, Below.refl _ _⟩
end Go.Proofs.YtffpifljeeikfaaGreatDoor.Wn

/-
  The contract of what puts a block into the ring that it embeds. Over this seat's translation.
-/
namespace Go.Proofs.YtffpifljeeikfaaGreatDoor.Wn
open Go.ChangeShapes Go.WideShapes Go.ChangeAt Go.RowKit Go.Proofs.YtffpifljeeikfaaGreatDoor.Mem Go.Proofs.YtffpifljeeikfaaGreatDoor.Bt Go.Proofs.YtffpifljeeikfaaGreatDoor.Rg
set_option linter.unusedVariables false
set_option linter.unusedSimpArgs false

/-- The ring that is there behind a block, or the ring as it was. -/
def aftL (L : Nat) (cs : List Nat) (u : Nat) : Nat := if L ≤ u ∧ atG L cs u < 3 then u else L
def aftC (L : Nat) (cs : List Nat) (u : Nat) : List Nat := if L ≤ u ∧ atG L cs u < 3 then putd L cs u else cs
theorem put_yes {L u : Nat} {cs : List Nat} (h : L ≤ u ∧ atG L cs u < 3) : putL L cs u = u ∧ putC L cs u = putd L cs u ∧ putE L cs u = 0 ∧ aftL L cs u = u ∧ aftC L cs u = putd L cs u := by
  unfold putL putC putE aftL aftC
  refine ⟨if_pos h, if_pos h, ?_, if_pos h, if_pos h⟩
  rw [if_neg (by omega), if_pos h.2]
theorem put_no {L u : Nat} {cs : List Nat} (h : ¬ (L ≤ u ∧ atG L cs u < 3)) : putL L cs u = 0 ∧ putC L cs u = [0, 0, 0, 0] ∧ putE L cs u ≠ 0 ∧ aftL L cs u = L ∧ aftC L cs u = cs := by
  unfold putL putC putE aftL aftC
  refine ⟨if_neg h, if_neg h, ?_, if_neg h, if_neg h⟩
  split
  · omega
  · rw [if_neg (fun h3 => h ⟨by omega, h3⟩)]; omega
set_option maxHeartbeats 4000000 in
set_option maxRecDepth 100000 in
theorem pput_any (P L s : Nat) (cs : List Nat) (w : World) (hr : Row w P 108 (pcs L cs s)) (hs : s < 4294967296) (hS : Small cs) (hl : cs.length = 4) :
    Calls Tryz.prog 51 #[.pointer (some ⟨P, 0, none⟩)] w fun e w' => e = .returned (.int .i64 (putE L cs (s / 3))) ∧ Row w' P 108 (pcs (aftL L cs (s / 3)) (aftC L cs (s / 3)) s) ∧ Only P w w' := by
  have HL := Lib.hid hl
  have HSS := Lib.hid hS
  have hub : s / 3 < 4294967296 := by omega
  have CSUB := fun w0 => Lib.hid (subB_any s w0 hs)
  have CPUT := fun w0 => Lib.hid (put_any L (s / 3) cs w0 hub hS hl)
  have HPL := Lib.hid (putC_len L cs (s / 3))
  have HYE := Lib.hid (fun h => put_yes (L := L) (u := s / 3) (cs := cs) h)
  have HNO := Lib.hid (fun h => put_no (L := L) (u := s / 3) (cs := cs) h)
  have HPD := Lib.hid (putd_len L cs (s / 3))
  clear hl hS
  by_cases hok : L ≤ s / 3 ∧ atG L cs ((s / 3 : Nat) : Int) < 3
  · obtain ⟨e1, e2, e3, e4, e5⟩ := HYE.out hok
    rw [e1, e2, e3] at CPUT
    rw [e3, e4, e5]
    clear hok e1 e2 e3 e4 e5 HYE HNO HPL
    generalize putd L cs (s / 3) = pd at CPUT HPD ⊢
    generalize s / 3 = u at CSUB CPUT hub ⊢
    go_enter Tryz.func51, Tryz.ntmps51
    go_wp2_with fail
    go_cut [3, 4] (fun nn ee wx => ∃ N : Nat, nn = .pointer (some ⟨N, 0, none⟩) ∧ ee = .int .i64 0 ∧ Row wx N 27 (rcs u pd) ∧ Below w.heap.size w wx ∧ w.heap.size ≤ N)
    case first =>
      obtain ⟨Z, hZ⟩ : ∃ Z, Z = w.heap.size := ⟨_, rfl⟩
      refine wp_region_held (S := fun w' => Below Z w.drew w') (by kernel_rfl) ?_
      change wpAnyH _ _ _ _ _ _ _ _ w.drew
      have rz : Row w.drew P 108 (pcs L cs s) := hr
      have rl : P < Z := by have := hr.lt; omega
      have belz : Below w.heap.size w w.drew := (Below.refl _ _).drew
      have hS : Below Z w.drew w.drew := Below.refl _ _
      have ez : w.drew.heap.size = w.heap.size := rfl
      have ZL : Hid (Z ≤ w.drew.heap.size) := Lib.hid (by omega)
      have ZW := Lib.hid hZ
      generalize w.drew = wz at rz belz hS ZL ⊢
      clear hZ ez
      refine h_take 0 (.pointer (some ⟨P, 0, none⟩)) rfl 6 rfl (by kernel_rfl) (by kernel_rfl) (by kernel_rfl) (by kernel_rfl) (fun _ _ _ h => h) (fun w' _ => by kernel_rfl) hS ?_
      simp only [Act.put, List.setIfInBounds_toArray, List.set_cons_zero, List.set_cons_succ]
      refine h_take 1 (.pointer (some ⟨P, 0, none⟩)) rfl 7 rfl (by kernel_rfl) (by kernel_rfl) (by kernel_rfl) (by kernel_rfl) (fun _ _ _ h => h) (fun w' _ => by kernel_rfl) hS ?_
      simp only [Act.put, List.setIfInBounds_toArray, List.set_cons_zero, List.set_cons_succ]
      refine h_take 2 (.pointer (some ⟨P, 0, none⟩)) rfl 8 rfl (by kernel_rfl) (by kernel_rfl) (by kernel_rfl) (by kernel_rfl) (fun _ _ _ h => h) (fun w' _ => by kernel_rfl) hS ?_
      simp only [Act.put, List.setIfInBounds_toArray, List.set_cons_zero, List.set_cons_succ]
      refine h_take 3 (.agg (rcs L cs).toArray) rfl 9 rfl (by kernel_rfl) (by kernel_rfl) (by kernel_rfl) (by kernel_rfl) (fun _ _ _ h => h) (fun w' hC => run_op_load _ _ rfl P 0 rfl (rcs L cs) (prow_ring (rz.below hC rl)) (sz_ring' HL.out)) hS ?_
      simp only [Act.put, List.setIfInBounds_toArray, List.set_cons_zero, List.set_cons_succ]
      refine h_take 4 (.pointer (some ⟨P, 0, none⟩)) rfl 10 rfl (by kernel_rfl) (by kernel_rfl) (by kernel_rfl) (by kernel_rfl) (fun _ _ _ h => h) (fun w' _ => by kernel_rfl) hS ?_
      simp only [Act.put, List.setIfInBounds_toArray, List.set_cons_zero, List.set_cons_succ]
      refine h_take 5 (.pointer (some ⟨P, 0, none⟩)) rfl 11 rfl (by kernel_rfl) (by kernel_rfl) (by kernel_rfl) (by kernel_rfl) (fun _ _ _ h => h) (fun w' _ => by kernel_rfl) hS ?_
      simp only [Act.put, List.setIfInBounds_toArray, List.set_cons_zero, List.set_cons_succ]
      refine h_take 6 (.pointer (some ⟨P, 5, none⟩)) rfl 12 rfl (by kernel_rfl) (by kernel_rfl) (by kernel_rfl) (by kernel_rfl) (fun _ _ _ h => h) (fun w' _ => by kernel_rfl) hS ?_
      simp only [Act.put, List.setIfInBounds_toArray, List.set_cons_zero, List.set_cons_succ]
      refine h_take 7 (.int .u32 (s : Int)) rfl 13 rfl (by kernel_rfl) (by kernel_rfl) (by kernel_rfl) (by kernel_rfl) (fun _ _ _ h => h) (fun w' hC => run_op_load32 _ rfl _ rfl _ ((rz.below hC rl).cell (pcs_getS HL.out))) hS ?_
      simp only [Act.put, List.setIfInBounds_toArray, List.set_cons_zero, List.set_cons_succ]
      refine h_two (i := 8) (j := 13) (by kernel_rfl) ?_ ?_
      · skip
        refine (o_call rfl 14 rfl (by kernel_rfl) (run_op_call 71 _ _ rfl #[.int .u32 (s : Int)] (by simp only [List.map_toArray, List.map_cons, List.map_nil]; rfl) Tryz.func71 (by kernel_rfl) (by kernel_rfl) _) (CSUB _).out ?_)
        rintro e y0 ⟨rfl, hB⟩
        have hS0 : Below Z wz y0 := below_step hS (Nat.le_trans ZL.out hS.size) hB
        refine ⟨_, rfl, hS0, ?_⟩
        clear hB
        simp only [Act.put, List.setIfInBounds_toArray, List.set_cons_zero, List.set_cons_succ]
        refine h_two (i := 9) (j := 13) (by kernel_rfl) ?_ ?_
        · skip
          refine (o_call rfl 15 rfl (by kernel_rfl) (run_op_call 70 _ _ rfl #[.agg (rcs L cs).toArray, .int .u32 (u : Int)] (by simp only [List.map_toArray, List.map_cons, List.map_nil]; rfl) Tryz.func70 (by kernel_rfl) (by kernel_rfl) _) (CPUT _).out ?_)
          rintro e y1 ⟨rfl, hB⟩
          have hS1 : Below Z wz y1 := below_step hS0 (Nat.le_trans ZL.out hS0.size) hB
          refine ⟨_, rfl, hS1, ?_⟩
          clear hB
          simp only [Act.put, List.setIfInBounds_toArray, List.set_cons_zero, List.set_cons_succ]
          refine h_take 10 (.tuple #[.agg (rcs u pd).toArray, .int .i64 0]) rfl 5 rfl (by kernel_rfl) (by kernel_rfl) (by kernel_rfl) (by kernel_rfl) (fun _ _ _ h => h) (fun w' _ => by kernel_rfl) hS1 ?_
          simp only [Act.put, List.setIfInBounds_toArray, List.set_cons_zero, List.set_cons_succ]
          refine h_take 11 (.agg (rcs u pd).toArray) rfl 16 rfl (by kernel_rfl) (by kernel_rfl) (by kernel_rfl) (by kernel_rfl) (fun _ _ _ h => h) (fun w' _ => by kernel_rfl) hS1 ?_
          simp only [Act.put, List.setIfInBounds_toArray, List.set_cons_zero, List.set_cons_succ]
          refine h_take 12 (.int .i64 0) rfl 17 rfl (by kernel_rfl) (by kernel_rfl) (by kernel_rfl) (by kernel_rfl) (fun _ _ _ h => h) (fun w' _ => by kernel_rfl) hS1 ?_
          simp only [Act.put, List.setIfInBounds_toArray, List.set_cons_zero, List.set_cons_succ]
          refine h_one (i := 13) (by kernel_rfl) (o_value _ rfl 3 rfl (by kernel_rfl) (run_op_alloc _ rfl (rcs 0 [0, 0, 0, 0]) z_ring) ?_)
          have hN := new_alloc y1 (.cells (rcs 0 [0, 0, 0, 0]).toArray 27)
          have rN2 : Row (y1.alloc (.cells (rcs 0 [0, 0, 0, 0]).toArray 27)) y1.heap.size 27 (rcs 0 [0, 0, 0, 0]) := heap_alloc_new _ _
          have lN : Z ≤ y1.heap.size := Nat.le_trans ZL.out hS1.size
          generalize y1.alloc (.cells (rcs 0 [0, 0, 0, 0]).toArray 27) = y2 at hN rN2 ⊢
          have hS2 : Below Z wz y2 := below_step hS1 (Nat.le_trans ZL.out hS1.size) hN.below
          clear hN
          refine ⟨hS2, ?_⟩
          generalize y1.heap.size = N at rN2 lN ⊢
          simp only [Act.put, List.setIfInBounds_toArray, List.set_cons_zero, List.set_cons_succ]
          refine h_one (i := 14) (by kernel_rfl) (o_skip rfl rfl (by kernel_rfl) (run_op_store _ _ _ rfl N 0 rfl (rcs u pd) rfl _ _ rN2 (fit5 HPD.out) (rcs_one _ _) (sz_ring' HPD.out)) ?_)
          have rNf := row_setRow rN2 (lay (rcs 0 [0, 0, 0, 0]) 0 (rcs u pd))
          have oNf := Only.setRow N y2 (lay (rcs 0 [0, 0, 0, 0]) 0 (rcs u pd)).toArray
          generalize y2.setRow N (lay (rcs 0 [0, 0, 0, 0]) 0 (rcs u pd)).toArray = yf at rNf oNf ⊢
          have hSf : Below Z wz yf := below_only hS2 oNf lN (Nat.le_trans ZL.out hS2.size)
          refine ⟨hSf, ?_⟩
          refine h_take 15 (.int .i64 0) rfl 4 rfl (by kernel_rfl) (by kernel_rfl) (by kernel_rfl) (by kernel_rfl) (fun _ _ _ h => h) (fun w' _ => by kernel_rfl) hSf ?_
          simp only [Act.put, List.setIfInBounds_toArray, List.set_cons_zero, List.set_cons_succ]
          refine wpAnyH_done (by kernel_rfl) ?_ _
          go_wp2_with fail
          go_meet
          exact ⟨N, rfl, rfl, rNf.congr (lay_all _ _ (len5 HPD.out)), belz.trans (ZW.out ▸ hSf), ZW.out ▸ lN⟩
        · skip
          refine (o_value _ rfl 3 rfl (by kernel_rfl) (run_op_alloc _ rfl (rcs 0 [0, 0, 0, 0]) z_ring) ?_)
          have hN := new_alloc y0 (.cells (rcs 0 [0, 0, 0, 0]).toArray 27)
          have rN1 : Row (y0.alloc (.cells (rcs 0 [0, 0, 0, 0]).toArray 27)) y0.heap.size 27 (rcs 0 [0, 0, 0, 0]) := heap_alloc_new _ _
          have lN : Z ≤ y0.heap.size := Nat.le_trans ZL.out hS0.size
          generalize y0.alloc (.cells (rcs 0 [0, 0, 0, 0]).toArray 27) = y1 at hN rN1 ⊢
          have hS1 : Below Z wz y1 := below_step hS0 (Nat.le_trans ZL.out hS0.size) hN.below
          clear hN
          refine ⟨hS1, ?_⟩
          generalize y0.heap.size = N at rN1 lN ⊢
          simp only [Act.put, List.setIfInBounds_toArray, List.set_cons_zero, List.set_cons_succ]
          refine h_one (i := 9) (by kernel_rfl) (o_call rfl 15 rfl (by kernel_rfl) (run_op_call 70 _ _ rfl #[.agg (rcs L cs).toArray, .int .u32 (u : Int)] (by simp only [List.map_toArray, List.map_cons, List.map_nil]; rfl) Tryz.func70 (by kernel_rfl) (by kernel_rfl) _) (CPUT _).out ?_)
          rintro e y2 ⟨rfl, hB⟩
          have hS2 : Below Z wz y2 := below_step hS1 (Nat.le_trans ZL.out hS1.size) hB
          refine ⟨_, rfl, hS2, ?_⟩
          have rN2 := rN1.old hB
          clear hB
          simp only [Act.put, List.setIfInBounds_toArray, List.set_cons_zero, List.set_cons_succ]
          refine h_take 10 (.tuple #[.agg (rcs u pd).toArray, .int .i64 0]) rfl 5 rfl (by kernel_rfl) (by kernel_rfl) (by kernel_rfl) (by kernel_rfl) (fun _ _ _ h => h) (fun w' _ => by kernel_rfl) hS2 ?_
          simp only [Act.put, List.setIfInBounds_toArray, List.set_cons_zero, List.set_cons_succ]
          refine h_take 11 (.agg (rcs u pd).toArray) rfl 16 rfl (by kernel_rfl) (by kernel_rfl) (by kernel_rfl) (by kernel_rfl) (fun _ _ _ h => h) (fun w' _ => by kernel_rfl) hS2 ?_
          simp only [Act.put, List.setIfInBounds_toArray, List.set_cons_zero, List.set_cons_succ]
          refine h_take 12 (.int .i64 0) rfl 17 rfl (by kernel_rfl) (by kernel_rfl) (by kernel_rfl) (by kernel_rfl) (fun _ _ _ h => h) (fun w' _ => by kernel_rfl) hS2 ?_
          simp only [Act.put, List.setIfInBounds_toArray, List.set_cons_zero, List.set_cons_succ]
          refine h_one (i := 14) (by kernel_rfl) (o_skip rfl rfl (by kernel_rfl) (run_op_store _ _ _ rfl N 0 rfl (rcs u pd) rfl _ _ rN2 (fit5 HPD.out) (rcs_one _ _) (sz_ring' HPD.out)) ?_)
          have rNf := row_setRow rN2 (lay (rcs 0 [0, 0, 0, 0]) 0 (rcs u pd))
          have oNf := Only.setRow N y2 (lay (rcs 0 [0, 0, 0, 0]) 0 (rcs u pd)).toArray
          generalize y2.setRow N (lay (rcs 0 [0, 0, 0, 0]) 0 (rcs u pd)).toArray = yf at rNf oNf ⊢
          have hSf : Below Z wz yf := below_only hS2 oNf lN (Nat.le_trans ZL.out hS2.size)
          refine ⟨hSf, ?_⟩
          refine h_take 15 (.int .i64 0) rfl 4 rfl (by kernel_rfl) (by kernel_rfl) (by kernel_rfl) (by kernel_rfl) (fun _ _ _ h => h) (fun w' _ => by kernel_rfl) hSf ?_
          simp only [Act.put, List.setIfInBounds_toArray, List.set_cons_zero, List.set_cons_succ]
          refine wpAnyH_done (by kernel_rfl) ?_ _
          go_wp2_with fail
          go_meet
          exact ⟨N, rfl, rfl, rNf.congr (lay_all _ _ (len5 HPD.out)), belz.trans (ZW.out ▸ hSf), ZW.out ▸ lN⟩
      · skip
        refine (o_value _ rfl 3 rfl (by kernel_rfl) (run_op_alloc _ rfl (rcs 0 [0, 0, 0, 0]) z_ring) ?_)
        have hN := new_alloc wz (.cells (rcs 0 [0, 0, 0, 0]).toArray 27)
        have rN1 : Row (wz.alloc (.cells (rcs 0 [0, 0, 0, 0]).toArray 27)) wz.heap.size 27 (rcs 0 [0, 0, 0, 0]) := heap_alloc_new _ _
        have lN : Z ≤ wz.heap.size := Nat.le_trans ZL.out hS.size
        generalize wz.alloc (.cells (rcs 0 [0, 0, 0, 0]).toArray 27) = y1 at hN rN1 ⊢
        have hS1 : Below Z wz y1 := below_step hS (Nat.le_trans ZL.out hS.size) hN.below
        clear hN
        refine ⟨hS1, ?_⟩
        generalize wz.heap.size = N at rN1 lN ⊢
        simp only [Act.put, List.setIfInBounds_toArray, List.set_cons_zero, List.set_cons_succ]
        refine h_one (i := 8) (by kernel_rfl) (o_call rfl 14 rfl (by kernel_rfl) (run_op_call 71 _ _ rfl #[.int .u32 (s : Int)] (by simp only [List.map_toArray, List.map_cons, List.map_nil]; rfl) Tryz.func71 (by kernel_rfl) (by kernel_rfl) _) (CSUB _).out ?_)
        rintro e y2 ⟨rfl, hB⟩
        have hS2 : Below Z wz y2 := below_step hS1 (Nat.le_trans ZL.out hS1.size) hB
        refine ⟨_, rfl, hS2, ?_⟩
        have rN2 := rN1.old hB
        clear hB
        simp only [Act.put, List.setIfInBounds_toArray, List.set_cons_zero, List.set_cons_succ]
        refine h_one (i := 9) (by kernel_rfl) (o_call rfl 15 rfl (by kernel_rfl) (run_op_call 70 _ _ rfl #[.agg (rcs L cs).toArray, .int .u32 (u : Int)] (by simp only [List.map_toArray, List.map_cons, List.map_nil]; rfl) Tryz.func70 (by kernel_rfl) (by kernel_rfl) _) (CPUT _).out ?_)
        rintro e y3 ⟨rfl, hB⟩
        have hS3 : Below Z wz y3 := below_step hS2 (Nat.le_trans ZL.out hS2.size) hB
        refine ⟨_, rfl, hS3, ?_⟩
        have rN3 := rN2.old hB
        clear hB
        simp only [Act.put, List.setIfInBounds_toArray, List.set_cons_zero, List.set_cons_succ]
        refine h_take 10 (.tuple #[.agg (rcs u pd).toArray, .int .i64 0]) rfl 5 rfl (by kernel_rfl) (by kernel_rfl) (by kernel_rfl) (by kernel_rfl) (fun _ _ _ h => h) (fun w' _ => by kernel_rfl) hS3 ?_
        simp only [Act.put, List.setIfInBounds_toArray, List.set_cons_zero, List.set_cons_succ]
        refine h_take 11 (.agg (rcs u pd).toArray) rfl 16 rfl (by kernel_rfl) (by kernel_rfl) (by kernel_rfl) (by kernel_rfl) (fun _ _ _ h => h) (fun w' _ => by kernel_rfl) hS3 ?_
        simp only [Act.put, List.setIfInBounds_toArray, List.set_cons_zero, List.set_cons_succ]
        refine h_take 12 (.int .i64 0) rfl 17 rfl (by kernel_rfl) (by kernel_rfl) (by kernel_rfl) (by kernel_rfl) (fun _ _ _ h => h) (fun w' _ => by kernel_rfl) hS3 ?_
        simp only [Act.put, List.setIfInBounds_toArray, List.set_cons_zero, List.set_cons_succ]
        refine h_one (i := 14) (by kernel_rfl) (o_skip rfl rfl (by kernel_rfl) (run_op_store _ _ _ rfl N 0 rfl (rcs u pd) rfl _ _ rN3 (fit5 HPD.out) (rcs_one _ _) (sz_ring' HPD.out)) ?_)
        have rNf := row_setRow rN3 (lay (rcs 0 [0, 0, 0, 0]) 0 (rcs u pd))
        have oNf := Only.setRow N y3 (lay (rcs 0 [0, 0, 0, 0]) 0 (rcs u pd)).toArray
        generalize y3.setRow N (lay (rcs 0 [0, 0, 0, 0]) 0 (rcs u pd)).toArray = yf at rNf oNf ⊢
        have hSf : Below Z wz yf := below_only hS3 oNf lN (Nat.le_trans ZL.out hS3.size)
        refine ⟨hSf, ?_⟩
        refine h_take 15 (.int .i64 0) rfl 4 rfl (by kernel_rfl) (by kernel_rfl) (by kernel_rfl) (by kernel_rfl) (fun _ _ _ h => h) (fun w' _ => by kernel_rfl) hSf ?_
        simp only [Act.put, List.setIfInBounds_toArray, List.set_cons_zero, List.set_cons_succ]
        refine wpAnyH_done (by kernel_rfl) ?_ _
        go_wp2_with fail
        go_meet
        exact ⟨N, rfl, rfl, rNf.congr (lay_all _ _ (len5 HPD.out)), belz.trans (ZW.out ▸ hSf), ZW.out ▸ lN⟩
    case rest =>
      obtain ⟨N, rfl, rfl, rN, hbx, lN⟩ := hcut
      have hr1 := hr.old hbx
      have nNP : N ≠ P := by have := hr.lt; omega
      have NNP := Lib.hid nNP
      have on1 := Only.of_below P hbx
      clear hr hbx lN nNP
      go_wp2_with (first
        | ((with_reducible refine at_slot 21 ?_); (refine arm_load (o := ⟨some 21, _, _, _, _, _⟩) rfl _ _ rfl N 0 rfl (rcs u pd) (row_all rN) (sz_ring' HPD.out) ?_))
        | ((with_reducible refine arm_store (o := ⟨none, _, _, _, _, _⟩) rfl _ _ _ rfl P 0 rfl (rcs u pd) rfl _ _ (hr1) (by rw [rcs_len HPD.out, pcs_len HL.out]; omega) (rcs_one _ _) (sz_ring' HPD.out) ?_); intro wd hwd owd swd))
      go_ret
      exact ⟨rfl, hwd.congr (pcs_lay HL.out HPD.out), on1.trans owd⟩
  · obtain ⟨e1, e2, e3, e4, e5⟩ := HNO.out hok
    rw [e1, e2] at CPUT
    rw [e4, e5]
    have hne : (putE L cs (s / 3) == (0 : Int)) = false := beq_eq_false_iff_ne.2 e3
    clear hok e1 e2 e3 e4 e5 HYE HNO HPL HPD
    generalize putE L cs (s / 3) = pe at CPUT hne ⊢
    generalize s / 3 = u at CSUB CPUT hub ⊢
    go_enter Tryz.func51, Tryz.ntmps51
    go_wp2_with fail
    go_cut [3, 4] (fun nn ee wx => ∃ N : Nat, nn = .pointer (some ⟨N, 0, none⟩) ∧ ee = .int .i64 pe ∧ Row wx N 27 (rcs 0 [0, 0, 0, 0]) ∧ Below w.heap.size w wx ∧ w.heap.size ≤ N)
    case first =>
      obtain ⟨Z, hZ⟩ : ∃ Z, Z = w.heap.size := ⟨_, rfl⟩
      refine wp_region_held (S := fun w' => Below Z w.drew w') (by kernel_rfl) ?_
      change wpAnyH _ _ _ _ _ _ _ _ w.drew
      have rz : Row w.drew P 108 (pcs L cs s) := hr
      have rl : P < Z := by have := hr.lt; omega
      have belz : Below w.heap.size w w.drew := (Below.refl _ _).drew
      have hS : Below Z w.drew w.drew := Below.refl _ _
      have ez : w.drew.heap.size = w.heap.size := rfl
      have ZL : Hid (Z ≤ w.drew.heap.size) := Lib.hid (by omega)
      have ZW := Lib.hid hZ
      generalize w.drew = wz at rz belz hS ZL ⊢
      clear hZ ez
      refine h_take 0 (.pointer (some ⟨P, 0, none⟩)) rfl 6 rfl (by kernel_rfl) (by kernel_rfl) (by kernel_rfl) (by kernel_rfl) (fun _ _ _ h => h) (fun w' _ => by kernel_rfl) hS ?_
      simp only [Act.put, List.setIfInBounds_toArray, List.set_cons_zero, List.set_cons_succ]
      refine h_take 1 (.pointer (some ⟨P, 0, none⟩)) rfl 7 rfl (by kernel_rfl) (by kernel_rfl) (by kernel_rfl) (by kernel_rfl) (fun _ _ _ h => h) (fun w' _ => by kernel_rfl) hS ?_
      simp only [Act.put, List.setIfInBounds_toArray, List.set_cons_zero, List.set_cons_succ]
      refine h_take 2 (.pointer (some ⟨P, 0, none⟩)) rfl 8 rfl (by kernel_rfl) (by kernel_rfl) (by kernel_rfl) (by kernel_rfl) (fun _ _ _ h => h) (fun w' _ => by kernel_rfl) hS ?_
      simp only [Act.put, List.setIfInBounds_toArray, List.set_cons_zero, List.set_cons_succ]
      refine h_take 3 (.agg (rcs L cs).toArray) rfl 9 rfl (by kernel_rfl) (by kernel_rfl) (by kernel_rfl) (by kernel_rfl) (fun _ _ _ h => h) (fun w' hC => run_op_load _ _ rfl P 0 rfl (rcs L cs) (prow_ring (rz.below hC rl)) (sz_ring' HL.out)) hS ?_
      simp only [Act.put, List.setIfInBounds_toArray, List.set_cons_zero, List.set_cons_succ]
      refine h_take 4 (.pointer (some ⟨P, 0, none⟩)) rfl 10 rfl (by kernel_rfl) (by kernel_rfl) (by kernel_rfl) (by kernel_rfl) (fun _ _ _ h => h) (fun w' _ => by kernel_rfl) hS ?_
      simp only [Act.put, List.setIfInBounds_toArray, List.set_cons_zero, List.set_cons_succ]
      refine h_take 5 (.pointer (some ⟨P, 0, none⟩)) rfl 11 rfl (by kernel_rfl) (by kernel_rfl) (by kernel_rfl) (by kernel_rfl) (fun _ _ _ h => h) (fun w' _ => by kernel_rfl) hS ?_
      simp only [Act.put, List.setIfInBounds_toArray, List.set_cons_zero, List.set_cons_succ]
      refine h_take 6 (.pointer (some ⟨P, 5, none⟩)) rfl 12 rfl (by kernel_rfl) (by kernel_rfl) (by kernel_rfl) (by kernel_rfl) (fun _ _ _ h => h) (fun w' _ => by kernel_rfl) hS ?_
      simp only [Act.put, List.setIfInBounds_toArray, List.set_cons_zero, List.set_cons_succ]
      refine h_take 7 (.int .u32 (s : Int)) rfl 13 rfl (by kernel_rfl) (by kernel_rfl) (by kernel_rfl) (by kernel_rfl) (fun _ _ _ h => h) (fun w' hC => run_op_load32 _ rfl _ rfl _ ((rz.below hC rl).cell (pcs_getS HL.out))) hS ?_
      simp only [Act.put, List.setIfInBounds_toArray, List.set_cons_zero, List.set_cons_succ]
      refine h_two (i := 8) (j := 13) (by kernel_rfl) ?_ ?_
      · skip
        refine (o_call rfl 14 rfl (by kernel_rfl) (run_op_call 71 _ _ rfl #[.int .u32 (s : Int)] (by simp only [List.map_toArray, List.map_cons, List.map_nil]; rfl) Tryz.func71 (by kernel_rfl) (by kernel_rfl) _) (CSUB _).out ?_)
        rintro e y0 ⟨rfl, hB⟩
        have hS0 : Below Z wz y0 := below_step hS (Nat.le_trans ZL.out hS.size) hB
        refine ⟨_, rfl, hS0, ?_⟩
        clear hB
        simp only [Act.put, List.setIfInBounds_toArray, List.set_cons_zero, List.set_cons_succ]
        refine h_two (i := 9) (j := 13) (by kernel_rfl) ?_ ?_
        · skip
          refine (o_call rfl 15 rfl (by kernel_rfl) (run_op_call 70 _ _ rfl #[.agg (rcs L cs).toArray, .int .u32 (u : Int)] (by simp only [List.map_toArray, List.map_cons, List.map_nil]; rfl) Tryz.func70 (by kernel_rfl) (by kernel_rfl) _) (CPUT _).out ?_)
          rintro e y1 ⟨rfl, hB⟩
          have hS1 : Below Z wz y1 := below_step hS0 (Nat.le_trans ZL.out hS0.size) hB
          refine ⟨_, rfl, hS1, ?_⟩
          clear hB
          simp only [Act.put, List.setIfInBounds_toArray, List.set_cons_zero, List.set_cons_succ]
          refine h_take 10 (.tuple #[.agg (rcs 0 [0, 0, 0, 0]).toArray, .int .i64 pe]) rfl 5 rfl (by kernel_rfl) (by kernel_rfl) (by kernel_rfl) (by kernel_rfl) (fun _ _ _ h => h) (fun w' _ => by kernel_rfl) hS1 ?_
          simp only [Act.put, List.setIfInBounds_toArray, List.set_cons_zero, List.set_cons_succ]
          refine h_take 11 (.agg (rcs 0 [0, 0, 0, 0]).toArray) rfl 16 rfl (by kernel_rfl) (by kernel_rfl) (by kernel_rfl) (by kernel_rfl) (fun _ _ _ h => h) (fun w' _ => by kernel_rfl) hS1 ?_
          simp only [Act.put, List.setIfInBounds_toArray, List.set_cons_zero, List.set_cons_succ]
          refine h_take 12 (.int .i64 pe) rfl 17 rfl (by kernel_rfl) (by kernel_rfl) (by kernel_rfl) (by kernel_rfl) (fun _ _ _ h => h) (fun w' _ => by kernel_rfl) hS1 ?_
          simp only [Act.put, List.setIfInBounds_toArray, List.set_cons_zero, List.set_cons_succ]
          refine h_one (i := 13) (by kernel_rfl) (o_value _ rfl 3 rfl (by kernel_rfl) (run_op_alloc _ rfl (rcs 0 [0, 0, 0, 0]) z_ring) ?_)
          have hN := new_alloc y1 (.cells (rcs 0 [0, 0, 0, 0]).toArray 27)
          have rN2 : Row (y1.alloc (.cells (rcs 0 [0, 0, 0, 0]).toArray 27)) y1.heap.size 27 (rcs 0 [0, 0, 0, 0]) := heap_alloc_new _ _
          have lN : Z ≤ y1.heap.size := Nat.le_trans ZL.out hS1.size
          generalize y1.alloc (.cells (rcs 0 [0, 0, 0, 0]).toArray 27) = y2 at hN rN2 ⊢
          have hS2 : Below Z wz y2 := below_step hS1 (Nat.le_trans ZL.out hS1.size) hN.below
          clear hN
          refine ⟨hS2, ?_⟩
          generalize y1.heap.size = N at rN2 lN ⊢
          simp only [Act.put, List.setIfInBounds_toArray, List.set_cons_zero, List.set_cons_succ]
          refine h_one (i := 14) (by kernel_rfl) (o_skip rfl rfl (by kernel_rfl) (run_op_store _ _ _ rfl N 0 rfl (rcs 0 [0, 0, 0, 0]) rfl _ _ rN2 (fit5 rfl) (rcs_one _ _) (sz_ring' rfl)) ?_)
          have rNf := row_setRow rN2 (lay (rcs 0 [0, 0, 0, 0]) 0 (rcs 0 [0, 0, 0, 0]))
          have oNf := Only.setRow N y2 (lay (rcs 0 [0, 0, 0, 0]) 0 (rcs 0 [0, 0, 0, 0])).toArray
          generalize y2.setRow N (lay (rcs 0 [0, 0, 0, 0]) 0 (rcs 0 [0, 0, 0, 0])).toArray = yf at rNf oNf ⊢
          have hSf : Below Z wz yf := below_only hS2 oNf lN (Nat.le_trans ZL.out hS2.size)
          refine ⟨hSf, ?_⟩
          refine h_take 15 (.int .i64 pe) rfl 4 rfl (by kernel_rfl) (by kernel_rfl) (by kernel_rfl) (by kernel_rfl) (fun _ _ _ h => h) (fun w' _ => by kernel_rfl) hSf ?_
          simp only [Act.put, List.setIfInBounds_toArray, List.set_cons_zero, List.set_cons_succ]
          refine wpAnyH_done (by kernel_rfl) ?_ _
          go_wp2_with fail
          go_meet
          exact ⟨N, rfl, rfl, rNf.congr (lay_all _ _ (len5 rfl)), belz.trans (ZW.out ▸ hSf), ZW.out ▸ lN⟩
        · skip
          refine (o_value _ rfl 3 rfl (by kernel_rfl) (run_op_alloc _ rfl (rcs 0 [0, 0, 0, 0]) z_ring) ?_)
          have hN := new_alloc y0 (.cells (rcs 0 [0, 0, 0, 0]).toArray 27)
          have rN1 : Row (y0.alloc (.cells (rcs 0 [0, 0, 0, 0]).toArray 27)) y0.heap.size 27 (rcs 0 [0, 0, 0, 0]) := heap_alloc_new _ _
          have lN : Z ≤ y0.heap.size := Nat.le_trans ZL.out hS0.size
          generalize y0.alloc (.cells (rcs 0 [0, 0, 0, 0]).toArray 27) = y1 at hN rN1 ⊢
          have hS1 : Below Z wz y1 := below_step hS0 (Nat.le_trans ZL.out hS0.size) hN.below
          clear hN
          refine ⟨hS1, ?_⟩
          generalize y0.heap.size = N at rN1 lN ⊢
          simp only [Act.put, List.setIfInBounds_toArray, List.set_cons_zero, List.set_cons_succ]
          refine h_one (i := 9) (by kernel_rfl) (o_call rfl 15 rfl (by kernel_rfl) (run_op_call 70 _ _ rfl #[.agg (rcs L cs).toArray, .int .u32 (u : Int)] (by simp only [List.map_toArray, List.map_cons, List.map_nil]; rfl) Tryz.func70 (by kernel_rfl) (by kernel_rfl) _) (CPUT _).out ?_)
          rintro e y2 ⟨rfl, hB⟩
          have hS2 : Below Z wz y2 := below_step hS1 (Nat.le_trans ZL.out hS1.size) hB
          refine ⟨_, rfl, hS2, ?_⟩
          have rN2 := rN1.old hB
          clear hB
          simp only [Act.put, List.setIfInBounds_toArray, List.set_cons_zero, List.set_cons_succ]
          refine h_take 10 (.tuple #[.agg (rcs 0 [0, 0, 0, 0]).toArray, .int .i64 pe]) rfl 5 rfl (by kernel_rfl) (by kernel_rfl) (by kernel_rfl) (by kernel_rfl) (fun _ _ _ h => h) (fun w' _ => by kernel_rfl) hS2 ?_
          simp only [Act.put, List.setIfInBounds_toArray, List.set_cons_zero, List.set_cons_succ]
          refine h_take 11 (.agg (rcs 0 [0, 0, 0, 0]).toArray) rfl 16 rfl (by kernel_rfl) (by kernel_rfl) (by kernel_rfl) (by kernel_rfl) (fun _ _ _ h => h) (fun w' _ => by kernel_rfl) hS2 ?_
          simp only [Act.put, List.setIfInBounds_toArray, List.set_cons_zero, List.set_cons_succ]
          refine h_take 12 (.int .i64 pe) rfl 17 rfl (by kernel_rfl) (by kernel_rfl) (by kernel_rfl) (by kernel_rfl) (fun _ _ _ h => h) (fun w' _ => by kernel_rfl) hS2 ?_
          simp only [Act.put, List.setIfInBounds_toArray, List.set_cons_zero, List.set_cons_succ]
          refine h_one (i := 14) (by kernel_rfl) (o_skip rfl rfl (by kernel_rfl) (run_op_store _ _ _ rfl N 0 rfl (rcs 0 [0, 0, 0, 0]) rfl _ _ rN2 (fit5 rfl) (rcs_one _ _) (sz_ring' rfl)) ?_)
          have rNf := row_setRow rN2 (lay (rcs 0 [0, 0, 0, 0]) 0 (rcs 0 [0, 0, 0, 0]))
          have oNf := Only.setRow N y2 (lay (rcs 0 [0, 0, 0, 0]) 0 (rcs 0 [0, 0, 0, 0])).toArray
          generalize y2.setRow N (lay (rcs 0 [0, 0, 0, 0]) 0 (rcs 0 [0, 0, 0, 0])).toArray = yf at rNf oNf ⊢
          have hSf : Below Z wz yf := below_only hS2 oNf lN (Nat.le_trans ZL.out hS2.size)
          refine ⟨hSf, ?_⟩
          refine h_take 15 (.int .i64 pe) rfl 4 rfl (by kernel_rfl) (by kernel_rfl) (by kernel_rfl) (by kernel_rfl) (fun _ _ _ h => h) (fun w' _ => by kernel_rfl) hSf ?_
          simp only [Act.put, List.setIfInBounds_toArray, List.set_cons_zero, List.set_cons_succ]
          refine wpAnyH_done (by kernel_rfl) ?_ _
          go_wp2_with fail
          go_meet
          exact ⟨N, rfl, rfl, rNf.congr (lay_all _ _ (len5 rfl)), belz.trans (ZW.out ▸ hSf), ZW.out ▸ lN⟩
      · skip
        refine (o_value _ rfl 3 rfl (by kernel_rfl) (run_op_alloc _ rfl (rcs 0 [0, 0, 0, 0]) z_ring) ?_)
        have hN := new_alloc wz (.cells (rcs 0 [0, 0, 0, 0]).toArray 27)
        have rN1 : Row (wz.alloc (.cells (rcs 0 [0, 0, 0, 0]).toArray 27)) wz.heap.size 27 (rcs 0 [0, 0, 0, 0]) := heap_alloc_new _ _
        have lN : Z ≤ wz.heap.size := Nat.le_trans ZL.out hS.size
        generalize wz.alloc (.cells (rcs 0 [0, 0, 0, 0]).toArray 27) = y1 at hN rN1 ⊢
        have hS1 : Below Z wz y1 := below_step hS (Nat.le_trans ZL.out hS.size) hN.below
        clear hN
        refine ⟨hS1, ?_⟩
        generalize wz.heap.size = N at rN1 lN ⊢
        simp only [Act.put, List.setIfInBounds_toArray, List.set_cons_zero, List.set_cons_succ]
        refine h_one (i := 8) (by kernel_rfl) (o_call rfl 14 rfl (by kernel_rfl) (run_op_call 71 _ _ rfl #[.int .u32 (s : Int)] (by simp only [List.map_toArray, List.map_cons, List.map_nil]; rfl) Tryz.func71 (by kernel_rfl) (by kernel_rfl) _) (CSUB _).out ?_)
        rintro e y2 ⟨rfl, hB⟩
        have hS2 : Below Z wz y2 := below_step hS1 (Nat.le_trans ZL.out hS1.size) hB
        refine ⟨_, rfl, hS2, ?_⟩
        have rN2 := rN1.old hB
        clear hB
        simp only [Act.put, List.setIfInBounds_toArray, List.set_cons_zero, List.set_cons_succ]
        refine h_one (i := 9) (by kernel_rfl) (o_call rfl 15 rfl (by kernel_rfl) (run_op_call 70 _ _ rfl #[.agg (rcs L cs).toArray, .int .u32 (u : Int)] (by simp only [List.map_toArray, List.map_cons, List.map_nil]; rfl) Tryz.func70 (by kernel_rfl) (by kernel_rfl) _) (CPUT _).out ?_)
        rintro e y3 ⟨rfl, hB⟩
        have hS3 : Below Z wz y3 := below_step hS2 (Nat.le_trans ZL.out hS2.size) hB
        refine ⟨_, rfl, hS3, ?_⟩
        have rN3 := rN2.old hB
        clear hB
        simp only [Act.put, List.setIfInBounds_toArray, List.set_cons_zero, List.set_cons_succ]
        refine h_take 10 (.tuple #[.agg (rcs 0 [0, 0, 0, 0]).toArray, .int .i64 pe]) rfl 5 rfl (by kernel_rfl) (by kernel_rfl) (by kernel_rfl) (by kernel_rfl) (fun _ _ _ h => h) (fun w' _ => by kernel_rfl) hS3 ?_
        simp only [Act.put, List.setIfInBounds_toArray, List.set_cons_zero, List.set_cons_succ]
        refine h_take 11 (.agg (rcs 0 [0, 0, 0, 0]).toArray) rfl 16 rfl (by kernel_rfl) (by kernel_rfl) (by kernel_rfl) (by kernel_rfl) (fun _ _ _ h => h) (fun w' _ => by kernel_rfl) hS3 ?_
        simp only [Act.put, List.setIfInBounds_toArray, List.set_cons_zero, List.set_cons_succ]
        refine h_take 12 (.int .i64 pe) rfl 17 rfl (by kernel_rfl) (by kernel_rfl) (by kernel_rfl) (by kernel_rfl) (fun _ _ _ h => h) (fun w' _ => by kernel_rfl) hS3 ?_
        simp only [Act.put, List.setIfInBounds_toArray, List.set_cons_zero, List.set_cons_succ]
        refine h_one (i := 14) (by kernel_rfl) (o_skip rfl rfl (by kernel_rfl) (run_op_store _ _ _ rfl N 0 rfl (rcs 0 [0, 0, 0, 0]) rfl _ _ rN3 (fit5 rfl) (rcs_one _ _) (sz_ring' rfl)) ?_)
        have rNf := row_setRow rN3 (lay (rcs 0 [0, 0, 0, 0]) 0 (rcs 0 [0, 0, 0, 0]))
        have oNf := Only.setRow N y3 (lay (rcs 0 [0, 0, 0, 0]) 0 (rcs 0 [0, 0, 0, 0])).toArray
        generalize y3.setRow N (lay (rcs 0 [0, 0, 0, 0]) 0 (rcs 0 [0, 0, 0, 0])).toArray = yf at rNf oNf ⊢
        have hSf : Below Z wz yf := below_only hS3 oNf lN (Nat.le_trans ZL.out hS3.size)
        refine ⟨hSf, ?_⟩
        refine h_take 15 (.int .i64 pe) rfl 4 rfl (by kernel_rfl) (by kernel_rfl) (by kernel_rfl) (by kernel_rfl) (fun _ _ _ h => h) (fun w' _ => by kernel_rfl) hSf ?_
        simp only [Act.put, List.setIfInBounds_toArray, List.set_cons_zero, List.set_cons_succ]
        refine wpAnyH_done (by kernel_rfl) ?_ _
        go_wp2_with fail
        go_meet
        exact ⟨N, rfl, rfl, rNf.congr (lay_all _ _ (len5 rfl)), belz.trans (ZW.out ▸ hSf), ZW.out ▸ lN⟩
    case rest =>
      obtain ⟨N, rfl, rfl, rN, hbx, lN⟩ := hcut
      have hr1 := hr.old hbx
      have on1 := Only.of_below P hbx
      clear hr hbx lN
      go_wp2_with fail
      go_ret
      exact ⟨rfl, hr1, on1⟩
end Go.Proofs.YtffpifljeeikfaaGreatDoor.Wn

/-
  The contracts of package window's Put and Relative. Over this seat's translation.
-/
namespace Go.Proofs.YtffpifljeeikfaaGreatDoor.Wn
open Go.ChangeShapes Go.WideShapes Go.ChangeAt Go.RowKit Go.Proofs.YtffpifljeeikfaaGreatDoor.Mem Go.Proofs.YtffpifljeeikfaaGreatDoor.Bt Go.Proofs.YtffpifljeeikfaaGreatDoor.Rg
set_option linter.unusedVariables false
set_option linter.unusedSimpArgs false

theorem num_min (x y : Nat) : (if (y : Int) < (x : Int) then (y : Int) else (x : Int)) = ((min x y : Nat) : Int) := by split <;> omega
theorem looks_new {L u s : Nat} {cs : List Nat} (h : Rt L cs) (hu : L ≤ u) : decide (12 ≤ s ∧ (putd L cs u).getD (u % 4) 0 = 1) = decide (12 ≤ s ∧ L < u) := decide_eq_decide.2 ⟨fun g => ⟨g.1, (putd_alone h hu).1 g.2⟩, fun g => ⟨g.1, (putd_alone h hu).2 g.2⟩⟩
set_option maxHeartbeats 4000000 in
set_option maxRecDepth 100000 in
theorem wput_any (M L s : Nat) (cs : List Nat) (w : World) (hM : M < 4294967296) (hL : L < 4294967296) (hs : s < 4294967296) (hr : Rt L cs) (hl : cs.length = 4) :
    Calls Tryz.prog 32 #[.agg (wcs M L cs).toArray, .int .u32 (s : Int)] w fun e w' => e = .returned (.tuple #[.agg (wcs (putM M L cs s) (putL L cs (s / 3)) (putC L cs (s / 3))).toArray, .int .i64 (putE L cs (s / 3))]) ∧ Below w.heap.size w w' := by
  have HL := Lib.hid hl
  have CPP := Lib.hid (fun P w0 (h : Row w0 P 108 (pcs L cs s)) => pput_any P L s cs w0 h hs hr.1 hl)
  have hub : s / 3 < 4294967296 := by omega
  by_cases hok : L ≤ s / 3 ∧ atG L cs ((s / 3 : Nat) : Int) < 3
  · obtain ⟨e1, e2, e3, e4, e5⟩ := put_yes hok
    have e6 : putM M L cs s = relN M L cs s := if_pos hok
    rw [e3, e4, e5] at CPP
    rw [e1, e2, e3, e6]
    have HLK := fun P w0 (h : Row w0 P 108 (pcs (s / 3) (putd L cs (s / 3)) s)) => looks_any P (s / 3) s (putd L cs (s / 3)) w0 h hub hs (putd_len _ _ _)
    rw [looks_new hr hok.1] at HLK
    have CLK := Lib.hid HLK
    have CBF := fun w0 => Lib.hid (before_any L (s / 3) cs w0 hL hub hr.1 hl)
    have HPD := Lib.hid (putd_len L cs (s / 3))
    have hrel : relN M L cs s = if 12 ≤ s ∧ L < s / 3 then min M (befN L cs (s / 3)) else M := by
      unfold relN
      by_cases h : 12 ≤ s ∧ L < s / 3
      · rw [if_pos h, if_neg (by omega)]
      · rw [if_neg h, if_pos (by omega)]
    rw [hrel]
    have HBE : Hid (L < s / 3 → befE L (s / 3) = 0) := fun h => befE_ok h
    clear hok e1 e2 e3 e4 e5 e6 HLK hr hl hrel
    generalize putd L cs (s / 3) = pd at CPP CLK HPD ⊢
    generalize befN L cs (s / 3) = bn at CBF ⊢
    generalize befE L (s / 3) = be at CBF HBE
    generalize s / 3 = u at CPP CLK CBF hub HBE ⊢
    by_cases hk : 12 ≤ s ∧ L < u
    · rw [if_pos hk]
      rw [decide_eq_true hk] at CLK
      obtain rfl := HBE.out hk.2
      clear hk HBE
      go_enter Tryz.func32, Tryz.ntmps32
      go_wp2_with (first
        | ((with_reducible refine at_slot 2 ?_); (refine arm_box (o := ⟨some 2, _, _, _, _, _⟩) rfl _ _ rfl (wcs M L cs) rfl ?_); intro B wa Be hwa nwa)
        | ((with_reducible refine at_slot 4 ?_); (refine arm_alloc (o := ⟨some 4, _, _, _, _, _⟩) rfl _ rfl (wcs 0 0 [0, 0, 0, 0]) z_win ?_); intro R wb Re hwb nwb)
        | ((with_reducible refine at_slot 12 ?_); (refine arm_load (o := ⟨some 12, _, _, _, _, _⟩) rfl _ _ rfl B 1 rfl (rcs L cs) (row_ring (hwa.old nwb.below)) (sz_ring' HL.out) ?_))
        | ((with_reducible refine at_slot 14 ?_); (refine arm_build (o := ⟨some 14, _, _, _, _, _⟩) rfl _ _ rfl (pcs L cs s) (by simp only [List.map_toArray, List.map_cons, List.map_nil]; exact built_putter L s cs HL.out) ?_))
        | ((with_reducible refine at_slot 6 ?_); (refine arm_alloc (o := ⟨some 6, _, _, _, _, _⟩) rfl _ rfl (pcs 0 [0, 0, 0, 0] 0) z_putter ?_); intro P wd Pe hwd nwd)
        | ((with_reducible refine arm_store (o := ⟨none, _, _, _, _, _⟩) rfl _ _ _ rfl P 0 rfl (pcs L cs s) rfl _ _ (hwd) (by rw [pcs_len HL.out, pz_len]; omega) (pcs_one _ _ _) (sz_putter HL.out) ?_); intro we hwe owe swe))
      have eB := Be.out; have eR := Re.out; have eP := Pe.out; have za := nwa.size; have zb := nwb.size; have zd := nwd.size; have ze := swe.out
      have bel : Below w.heap.size w we := below_only (below_step (below_step nwa.below (by omega) nwb.below) (by omega) nwd.below) owe (by omega) (by omega)
      have rB := ((hwa.old nwb.below).old nwd.below).only owe (by omega)
      have rR := (hwb.old nwd.below).only owe (by omega)
      have rP : Row we P 108 (pcs L cs s) := hwe.congr (lay_all _ _ (by rw [pcs_len HL.out, pz_len]))
      have AP : Hid (w.heap.size ≤ B ∧ w.heap.size ≤ R ∧ w.heap.size ≤ P ∧ B ≠ R ∧ B ≠ P ∧ R ≠ P) := ⟨by omega, by omega, by omega, by omega, by omega, by omega⟩
      clear eB eR eP za zb zd ze Be Re Pe hwa hwb hwd hwe nwa nwb nwd owe swe
      clear wa wb wd
      refine (CPP.out P _ rP).mono ?_
      rintro e wf ⟨rfl, rP', oP⟩
      have rB' := rB.only oP AP.out.2.2.2.2.1
      have rR' := rR.only oP AP.out.2.2.2.2.2
      have bel' := below_only bel oP AP.out.2.2.1 bel.size
      clear bel rB rR rP oP
      have cB := rB'.cell (wcs_get0 M L cs)
      have cP := rP'.cell (pcs_get0 u s pd)
      go_wp2_with fail
      refine (CLK.out P _ rP').mono ?_
      rintro e wg ⟨rfl, hB⟩
      have rBg := rB'.old hB
      have rRg := rR'.old hB
      have rPg := rP'.old hB
      have bel3 := below_step bel' bel'.size hB
      clear rB' rR' rP' bel' hB cB cP
      have cP := rPg.cell (pcs_get0 u s pd)
      go_wp2_with (first
        | ((with_reducible refine at_slot 25 ?_); (refine arm_load (o := ⟨some 25, _, _, _, _, _⟩) rfl _ _ rfl B 1 rfl (rcs L cs) (row_ring rBg) (sz_ring' HL.out) ?_)))
      refine (CBF _).out.mono ?_
      rintro e wh ⟨rfl, hB⟩
      have rRh := rRg.old hB
      have rPh := rPg.old hB
      have bel4 := below_step bel3 bel3.size hB
      clear rBg rRg rPg bel3 hB cP
      go_wp2_with (first
        | ((with_reducible refine at_slot 34 ?_); (refine arm_min (o := ⟨some 34, _, _, _, _, _⟩) rfl _ _ _ rfl .u32 (M : Int) (bn : Int) rfl rfl (min M bn) (num_min M bn) ?_))
        | ((with_reducible refine at_slot 37 ?_); (refine arm_load (o := ⟨some 37, _, _, _, _, _⟩) rfl _ _ rfl P 0 rfl (rcs u pd) (prow_ring rPh) (sz_ring' HPD.out) ?_))
        | ((with_reducible refine at_slot 38 ?_); (refine arm_build (o := ⟨some 38, _, _, _, _, _⟩) rfl _ _ rfl (wcs (min M bn) u pd) (by simp only [List.map_toArray, List.map_cons, List.map_nil]; exact built_win (min M bn) u pd HPD.out) ?_))
        | ((with_reducible refine arm_store (o := ⟨none, _, _, _, _, _⟩) rfl _ _ _ rfl R 0 rfl (wcs (min M bn) u pd) rfl _ _ (rRh) (fit6 HPD.out) (wcs_one _ _ _) (sz_win HPD.out) ?_); intro wi hwi owi swi))
      refine bodyPost_ret (v := .tuple #[.agg (wcs (min M bn) u pd).toArray, .int .i64 0]) (result_row2 (p := 4) (u := 5) (ty := 29) (t := 29) (by kernel_rfl) _ wi R _ _ rfl rfl (hwi.congr (lay_all _ _ (len6 HPD.out))) (sz_win HPD.out)) rfl ⟨rfl, below_only bel4 owi AP.out.2.1 bel4.size⟩
    · rw [if_neg hk]
      rw [decide_eq_false hk] at CLK
      clear hk HBE CBF
      go_enter Tryz.func32, Tryz.ntmps32
      go_wp2_with (first
        | ((with_reducible refine at_slot 2 ?_); (refine arm_box (o := ⟨some 2, _, _, _, _, _⟩) rfl _ _ rfl (wcs M L cs) rfl ?_); intro B wa Be hwa nwa)
        | ((with_reducible refine at_slot 4 ?_); (refine arm_alloc (o := ⟨some 4, _, _, _, _, _⟩) rfl _ rfl (wcs 0 0 [0, 0, 0, 0]) z_win ?_); intro R wb Re hwb nwb)
        | ((with_reducible refine at_slot 12 ?_); (refine arm_load (o := ⟨some 12, _, _, _, _, _⟩) rfl _ _ rfl B 1 rfl (rcs L cs) (row_ring (hwa.old nwb.below)) (sz_ring' HL.out) ?_))
        | ((with_reducible refine at_slot 14 ?_); (refine arm_build (o := ⟨some 14, _, _, _, _, _⟩) rfl _ _ rfl (pcs L cs s) (by simp only [List.map_toArray, List.map_cons, List.map_nil]; exact built_putter L s cs HL.out) ?_))
        | ((with_reducible refine at_slot 6 ?_); (refine arm_alloc (o := ⟨some 6, _, _, _, _, _⟩) rfl _ rfl (pcs 0 [0, 0, 0, 0] 0) z_putter ?_); intro P wd Pe hwd nwd)
        | ((with_reducible refine arm_store (o := ⟨none, _, _, _, _, _⟩) rfl _ _ _ rfl P 0 rfl (pcs L cs s) rfl _ _ (hwd) (by rw [pcs_len HL.out, pz_len]; omega) (pcs_one _ _ _) (sz_putter HL.out) ?_); intro we hwe owe swe))
      have eB := Be.out; have eR := Re.out; have eP := Pe.out; have za := nwa.size; have zb := nwb.size; have zd := nwd.size; have ze := swe.out
      have bel : Below w.heap.size w we := below_only (below_step (below_step nwa.below (by omega) nwb.below) (by omega) nwd.below) owe (by omega) (by omega)
      have rB := ((hwa.old nwb.below).old nwd.below).only owe (by omega)
      have rR := (hwb.old nwd.below).only owe (by omega)
      have rP : Row we P 108 (pcs L cs s) := hwe.congr (lay_all _ _ (by rw [pcs_len HL.out, pz_len]))
      have AP : Hid (w.heap.size ≤ B ∧ w.heap.size ≤ R ∧ w.heap.size ≤ P ∧ B ≠ R ∧ B ≠ P ∧ R ≠ P) := ⟨by omega, by omega, by omega, by omega, by omega, by omega⟩
      clear eB eR eP za zb zd ze Be Re Pe hwa hwb hwd hwe nwa nwb nwd owe swe
      clear wa wb wd
      refine (CPP.out P _ rP).mono ?_
      rintro e wf ⟨rfl, rP', oP⟩
      have rB' := rB.only oP AP.out.2.2.2.2.1
      have rR' := rR.only oP AP.out.2.2.2.2.2
      have bel' := below_only bel oP AP.out.2.2.1 bel.size
      clear bel rB rR rP oP
      have cB := rB'.cell (wcs_get0 M L cs)
      go_wp2_with fail
      refine (CLK.out P _ rP').mono ?_
      rintro e wg ⟨rfl, hB⟩
      have rRg := rR'.old hB
      have rPg := rP'.old hB
      have bel3 := below_step bel' bel'.size hB
      clear rB' rR' rP' bel' hB cB
      go_wp2_with (first
        | ((with_reducible refine at_slot 37 ?_); (refine arm_load (o := ⟨some 37, _, _, _, _, _⟩) rfl _ _ rfl P 0 rfl (rcs u pd) (prow_ring rPg) (sz_ring' HPD.out) ?_))
        | ((with_reducible refine at_slot 38 ?_); (refine arm_build (o := ⟨some 38, _, _, _, _, _⟩) rfl _ _ rfl (wcs M u pd) (by simp only [List.map_toArray, List.map_cons, List.map_nil]; exact built_win M u pd HPD.out) ?_))
        | ((with_reducible refine arm_store (o := ⟨none, _, _, _, _, _⟩) rfl _ _ _ rfl R 0 rfl (wcs M u pd) rfl _ _ (rRg) (fit6 HPD.out) (wcs_one _ _ _) (sz_win HPD.out) ?_); intro wi hwi owi swi))
      refine bodyPost_ret (v := .tuple #[.agg (wcs M u pd).toArray, .int .i64 0]) (result_row2 (p := 4) (u := 5) (ty := 29) (t := 29) (by kernel_rfl) _ wi R _ _ rfl rfl (hwi.congr (lay_all _ _ (len6 HPD.out))) (sz_win HPD.out)) rfl ⟨rfl, below_only bel3 owi AP.out.2.1 bel3.size⟩
  · obtain ⟨e1, e2, e3, e4, e5⟩ := put_no hok
    have e6 : putM M L cs s = 0 := if_neg hok
    rw [e4, e5] at CPP
    rw [e1, e2, e6]
    have hne : (putE L cs (s / 3) != (0 : Int)) = true := bne_iff_ne.2 e3
    clear hok e1 e2 e3 e4 e5 e6 hr hl hub
    generalize putE L cs (s / 3) = pe at CPP hne ⊢
    go_enter Tryz.func32, Tryz.ntmps32
    go_wp2_with (first
      | ((with_reducible refine at_slot 2 ?_); (refine arm_box (o := ⟨some 2, _, _, _, _, _⟩) rfl _ _ rfl (wcs M L cs) rfl ?_); intro B wa Be hwa nwa)
      | ((with_reducible refine at_slot 4 ?_); (refine arm_alloc (o := ⟨some 4, _, _, _, _, _⟩) rfl _ rfl (wcs 0 0 [0, 0, 0, 0]) z_win ?_); intro R wb Re hwb nwb)
      | ((with_reducible refine at_slot 12 ?_); (refine arm_load (o := ⟨some 12, _, _, _, _, _⟩) rfl _ _ rfl B 1 rfl (rcs L cs) (row_ring (hwa.old nwb.below)) (sz_ring' HL.out) ?_))
      | ((with_reducible refine at_slot 14 ?_); (refine arm_build (o := ⟨some 14, _, _, _, _, _⟩) rfl _ _ rfl (pcs L cs s) (by simp only [List.map_toArray, List.map_cons, List.map_nil]; exact built_putter L s cs HL.out) ?_))
      | ((with_reducible refine at_slot 6 ?_); (refine arm_alloc (o := ⟨some 6, _, _, _, _, _⟩) rfl _ rfl (pcs 0 [0, 0, 0, 0] 0) z_putter ?_); intro P wd Pe hwd nwd)
      | ((with_reducible refine arm_store (o := ⟨none, _, _, _, _, _⟩) rfl _ _ _ rfl P 0 rfl (pcs L cs s) rfl _ _ (hwd) (by rw [pcs_len HL.out, pz_len]; omega) (pcs_one _ _ _) (sz_putter HL.out) ?_); intro we hwe owe swe))
    have eB := Be.out; have eR := Re.out; have eP := Pe.out; have za := nwa.size; have zb := nwb.size; have zd := nwd.size; have ze := swe.out
    have bel : Below w.heap.size w we := below_only (below_step (below_step nwa.below (by omega) nwb.below) (by omega) nwd.below) owe (by omega) (by omega)
    have rB := ((hwa.old nwb.below).old nwd.below).only owe (by omega)
    have rR := (hwb.old nwd.below).only owe (by omega)
    have rP : Row we P 108 (pcs L cs s) := hwe.congr (lay_all _ _ (by rw [pcs_len HL.out, pz_len]))
    have AP : Hid (w.heap.size ≤ B ∧ w.heap.size ≤ R ∧ w.heap.size ≤ P ∧ B ≠ R ∧ B ≠ P ∧ R ≠ P) := ⟨by omega, by omega, by omega, by omega, by omega, by omega⟩
    clear eB eR eP za zb zd ze Be Re Pe hwa hwb hwd hwe nwa nwb nwd owe swe
    clear wa wb wd
    refine (CPP.out P _ rP).mono ?_
    rintro e wf ⟨rfl, rP', oP⟩
    have rB' := rB.only oP AP.out.2.2.2.2.1
    have rR' := rR.only oP AP.out.2.2.2.2.2
    have bel' := below_only bel oP AP.out.2.2.1 bel.size
    clear bel rB rR rP oP
    go_wp2_with (first
      | ((with_reducible refine at_slot 18 ?_); (refine arm_build (o := ⟨some 18, _, _, _, _, _⟩) rfl _ _ rfl (wcs 0 0 [0, 0, 0, 0]) (by kernel_rfl) ?_))
      | ((with_reducible refine arm_store (o := ⟨none, _, _, _, _, _⟩) rfl _ _ _ rfl R 0 rfl (wcs 0 0 [0, 0, 0, 0]) rfl _ _ (rR') (fit6 rfl) (wcs_one _ _ _) (sz_win rfl) ?_); intro wi hwi owi swi))
    refine bodyPost_ret (v := .tuple #[.agg (wcs 0 0 [0, 0, 0, 0]).toArray, .int .i64 pe]) (result_row2 (p := 4) (u := 5) (ty := 29) (t := 29) (by kernel_rfl) _ wi R _ _ rfl rfl (hwi.congr (lay_all _ _ (len6 rfl))) (sz_win rfl)) rfl ⟨rfl, below_only bel' owi AP.out.2.1 bel'.size⟩
theorem rel_of_put {M L s : Nat} {cs : List Nat} (h : Rt L cs) : relN M L cs s = if putE L cs (s / 3) = 0 then putM M L cs s else M := by
  by_cases hok : L ≤ s / 3 ∧ atG L cs ((s / 3 : Nat) : Int) < 3
  · rw [if_pos (put_yes hok).2.2.1]
    exact (if_pos hok).symm
  · rw [if_neg (put_no hok).2.2.1]
    refine if_pos (Or.inr ?_)
    rcases Nat.lt_or_ge L (s / 3) with h1 | h1
    · exact absurd ⟨by omega, by rw [atG_out (.inr (by omega))]; omega⟩ hok
    · exact h1
set_option maxHeartbeats 2000000 in
set_option maxRecDepth 100000 in
theorem wrel_any (M L s : Nat) (cs : List Nat) (w : World) (hM : M < 4294967296) (hL : L < 4294967296) (hs : s < 4294967296) (hr : Rt L cs) (hl : cs.length = 4) :
    Calls Tryz.prog 39 #[.agg (wcs M L cs).toArray, .int .u32 (s : Int)] w fun e w' => e = .returned (.int .u32 (relN M L cs s : Nat)) ∧ Below w.heap.size w w' := by
  have HL := Lib.hid hl
  have CP := fun w0 => Lib.hid (wput_any M L s cs w0 hM hL hs hr hl)
  have HPL := Lib.hid (putC_len L cs (s / 3))
  obtain ⟨rv, hrv⟩ : ∃ rv, rv = relN M L cs s := ⟨_, rfl⟩
  rw [← hrv]
  rw [rel_of_put hr] at hrv
  clear hr hl
  generalize putL L cs (s / 3) = pl at CP
  generalize putC L cs (s / 3) = pc at CP HPL
  generalize putM M L cs s = pm at CP hrv
  generalize putE L cs (s / 3) = pe at CP hrv
  have HR := Lib.hid hrv
  clear hrv
  go_enter Tryz.func39, Tryz.ntmps39
  go_wp2_with (first
    | ((with_reducible refine at_slot 2 ?_); (refine arm_box (o := ⟨some 2, _, _, _, _, _⟩) rfl _ _ rfl (wcs M L cs) rfl ?_); intro B wa Be hwa nwa)
    | ((with_reducible refine at_slot 8 ?_); (refine arm_load (o := ⟨some 8, _, _, _, _, _⟩) rfl _ _ rfl B 0 rfl (wcs M L cs) (row_all hwa) (sz_win HL.out) ?_)))
  refine (CP _).out.mono ?_
  rintro e wb ⟨rfl, hB⟩
  have bel := below_step nwa.below nwa.below.size hB
  have rB := hwa.old hB
  clear Be hwa nwa hB CP
  clear wa
  by_cases h0 : pe = 0
  · obtain rfl : pm = rv := by rw [HR.out, if_pos h0]
    subst h0
    clear HR
    go_wp2_with (first
      | ((with_reducible refine at_slot 5 ?_); (refine arm_alloc (o := ⟨some 5, _, _, _, _, _⟩) rfl _ rfl (wcs 0 0 [0, 0, 0, 0]) z_win ?_); intro N wc Ne hwc nwc)
      | ((with_reducible refine arm_store (o := ⟨none, _, _, _, _, _⟩) rfl _ _ _ rfl N 0 rfl (wcs pm pl pc) rfl _ _ (hwc) (fit6 HPL.out) (wcs_one _ _ _) (sz_win HPL.out) ?_); intro wd hwd owd swd); have cN := (hwd.congr (lay_all _ _ (len6 HPL.out))).cell (wcs_get0 pm pl pc))
    have eN := Ne.out; have zN := bel.size
    go_ret
    exact ⟨rfl, below_only (below_step bel bel.size nwc.below) owd (by omega) (by rw [nwc.size]; omega)⟩
  · obtain rfl : M = rv := by rw [HR.out, if_neg h0]
    clear HR
    have hne : (pe != (0 : Int)) = true := bne_iff_ne.2 h0
    clear h0
    go_wp2_with (first
      | ((with_reducible refine at_slot 5 ?_); (refine arm_alloc (o := ⟨some 5, _, _, _, _, _⟩) rfl _ rfl (wcs 0 0 [0, 0, 0, 0]) z_win ?_); intro N wc Ne hwc nwc)
      | ((with_reducible refine arm_store (o := ⟨none, _, _, _, _, _⟩) rfl _ _ _ rfl N 0 rfl (wcs pm pl pc) rfl _ _ (hwc) (fit6 HPL.out) (wcs_one _ _ _) (sz_win HPL.out) ?_); intro wd hwd owd swd); have cB := ((rB.old nwc.below).only owd (by have := Ne.out; have := rB.lt; omega)).cell (wcs_get0 M L cs))
    have eN := Ne.out; have zN := bel.size
    go_ret
    exact ⟨rfl, below_only (below_step bel bel.size nwc.below) owd (by omega) (by rw [nwc.size]; omega)⟩
end Go.Proofs.YtffpifljeeikfaaGreatDoor.Wn

/-
  The contracts of the document's Relative and Put for window states. Over this seat's translation.
-/
namespace Go.Proofs.YtffpifljeeikfaaGreatDoor.Wn
open Go.ChangeShapes Go.WideShapes Go.ChangeAt Go.RowKit Go.Proofs.YtffpifljeeikfaaGreatDoor.Mem Go.Proofs.YtffpifljeeikfaaGreatDoor.Bt Go.Proofs.YtffpifljeeikfaaGreatDoor.Rg
set_option linter.unusedVariables false
set_option linter.unusedSimpArgs false

theorem run_op_lssI {P : Program} {o : Oper} {a : Act} (t t' : TypeId) (k' : IntKind) (hu : P.underlying t = some (.int k')) (x y : Operand) (ho : o.op = .binOp .lss t x y t') (k : IntKind) (m n : Int) (hx : a.eval x = .int k m) (hy : a.eval y = .int k n) (w : World) :
    (execOp a.eval o).run P w = .ok (.value (.bool (decide (m < n)))) w := by
  unfold execOp
  simp [ho, hx, hy, eqGuard, binOp, Op.intCmp]
theorem run_op_leqI {P : Program} {o : Oper} {a : Act} (t t' : TypeId) (k' : IntKind) (hu : P.underlying t = some (.int k')) (x y : Operand) (ho : o.op = .binOp .leq t x y t') (k : IntKind) (m n : Int) (hx : a.eval x = .int k m) (hy : a.eval y = .int k n) (w : World) :
    (execOp a.eval o).run P w = .ok (.value (.bool (decide (m ≤ n)))) w := by
  unfold execOp
  simp [ho, hx, hy, eqGuard, binOp, Op.intCmp]
set_option maxHeartbeats 2000000 in
set_option maxRecDepth 100000 in
theorem rwrel_any (M L s : Nat) (cs : List Nat) (w : World) (hM : M < 4294967296) (hL : L < 4294967296) (hs : s < 4294967296) (hr : Rt L cs) (hl : cs.length = 4) :
    Calls Tryz.prog 19 #[.agg (wcs M L cs).toArray, .int .u32 (s : Int)] w fun e w' => e = .returned (.int .u32 (relN M L cs s : Nat)) ∧ Below w.heap.size w w' := by
  have HL := Lib.hid hl
  have hub : s / 3 < 4294967296 := by omega
  have CBF := fun w0 => Lib.hid (rbefore_any L (s / 3) cs w0 hL hub hr.1 hl)
  have CSUB := fun w0 => Lib.hid (sub_nat s w0 hs)
  have HBE : Hid (L < s / 3 → befE L (s / 3) = 0) := fun h => befE_ok h
  obtain ⟨rv, hrv⟩ : ∃ rv, rv = relN M L cs s := ⟨_, rfl⟩
  rw [← hrv]
  unfold relN at hrv
  generalize befN L cs (s / 3) = bn at CBF hrv
  generalize befE L (s / 3) = be at CBF HBE
  generalize s / 3 = u at CBF CSUB HBE hub hrv
  clear hr hl
  by_cases h12 : s < 12
  · have hd : Hid (decide ((s : Int) < 12) = true) := decide_eq_true (by omega)
    obtain rfl : M = rv := by rw [hrv, if_pos (Or.inl h12)]
    clear hrv CBF CSUB HBE
    go_enter Tryz.func19, Tryz.ntmps19
    go_wp2_with (first
      | ((with_reducible refine at_slot 2 ?_); (refine arm_box (o := ⟨some 2, _, _, _, _, _⟩) rfl _ _ rfl (wcs M L cs) rfl ?_); intro B wa Be hwa nwa))
    refine wp_region_held (S := fun w' => Below wa.drew.heap.size wa.drew w') (by kernel_rfl) ?_
    change wpAnyH _ _ _ _ _ _ _ _ wa.drew
    have rz : Row wa.drew B 44 (wcs M L cs) := hwa
    have belz : Below w.heap.size w wa.drew := nwa.below.trans ((Below.refl _ _).drew)
    generalize wa.drew = wz at rz belz ⊢
    clear hwa nwa Be
    clear wa
    have hS : Below wz.heap.size wz wz := Below.refl _ _
    refine h_take 0 (.int .u32 (s : Int)) rfl 7 rfl (by kernel_rfl) (by kernel_rfl) (by kernel_rfl) (by kernel_rfl) (fun _ _ _ h => h) (fun w' _ => by kernel_rfl) hS ?_
    simp only [Act.put, List.setIfInBounds_toArray, List.set_cons_zero, List.set_cons_succ]
    refine h_take 1 (.bool true) rfl 8 rfl (by kernel_rfl) (by kernel_rfl) (by kernel_rfl) (by kernel_rfl) (fun _ _ _ h => h) (fun w' _ => (run_op_lssI _ _ .u32 (by kernel_rfl) _ _ rfl .u32 _ _ rfl rfl w').trans (by rw [hd.out])) hS ?_
    simp only [Act.put, List.setIfInBounds_toArray, List.set_cons_zero, List.set_cons_succ]
    refine h_take 2 (.bool true) rfl 9 rfl (by kernel_rfl) (by kernel_rfl) (by kernel_rfl) (by kernel_rfl) (fun _ _ _ h => h) (fun w' _ => by kernel_rfl) hS ?_
    simp only [Act.put, List.setIfInBounds_toArray, List.set_cons_zero, List.set_cons_succ]
    refine h_pass 3 rfl 10 rfl (by kernel_rfl) (by kernel_rfl) (by kernel_rfl) (by kernel_rfl) (fun _ _ _ h => h) hS ?_
    simp only [Act.put, List.setIfInBounds_toArray, List.set_cons_zero, List.set_cons_succ]
    refine h_pass 4 rfl 11 rfl (by kernel_rfl) (by kernel_rfl) (by kernel_rfl) (by kernel_rfl) (fun _ _ _ h => h) hS ?_
    simp only [Act.put, List.setIfInBounds_toArray, List.set_cons_zero, List.set_cons_succ]
    refine h_pass 5 rfl 12 rfl (by kernel_rfl) (by kernel_rfl) (by kernel_rfl) (by kernel_rfl) (fun _ _ _ h => h) hS ?_
    simp only [Act.put, List.setIfInBounds_toArray, List.set_cons_zero, List.set_cons_succ]
    refine h_pass 6 rfl 13 rfl (by kernel_rfl) (by kernel_rfl) (by kernel_rfl) (by kernel_rfl) (fun _ _ _ h => h) hS ?_
    simp only [Act.put, List.setIfInBounds_toArray, List.set_cons_zero, List.set_cons_succ]
    refine h_pass 7 rfl 14 rfl (by kernel_rfl) (by kernel_rfl) (by kernel_rfl) (by kernel_rfl) (fun _ _ _ h => h) hS ?_
    simp only [Act.put, List.setIfInBounds_toArray, List.set_cons_zero, List.set_cons_succ]
    refine h_pass 8 rfl 15 rfl (by kernel_rfl) (by kernel_rfl) (by kernel_rfl) (by kernel_rfl) (fun _ _ _ h => h) hS ?_
    simp only [Act.put, List.setIfInBounds_toArray, List.set_cons_zero, List.set_cons_succ]
    refine h_take 9 (.bool true) rfl 16 rfl (by kernel_rfl) (by kernel_rfl) (by kernel_rfl) (by kernel_rfl) (fun _ _ _ h => h) (fun w' _ => by kernel_rfl) hS ?_
    simp only [Act.put, List.setIfInBounds_toArray, List.set_cons_zero, List.set_cons_succ]
    refine wpAnyH_done (by kernel_rfl) ?_ _
    have cB := rz.cell (wcs_get0 M L cs)
    go_wp2_with fail
    go_ret
    exact ⟨rfl, belz⟩
  · have hd : Hid (decide ((s : Int) < 12) = false) := decide_eq_false (by omega)
    obtain ⟨v, hv⟩ : ∃ v : Bool, v = decide ((u : Int) ≤ (L : Int)) := ⟨_, rfl⟩
    have HV := Lib.hid hv.symm
    have HRV := Lib.hid hrv
    clear hrv
    go_enter Tryz.func19, Tryz.ntmps19
    go_wp2_with (first
      | ((with_reducible refine at_slot 2 ?_); (refine arm_box (o := ⟨some 2, _, _, _, _, _⟩) rfl _ _ rfl (wcs M L cs) rfl ?_); intro B wa Be hwa nwa))
    refine wp_region_held (S := fun w' => Below wa.drew.heap.size wa.drew w') (by kernel_rfl) ?_
    change wpAnyH _ _ _ _ _ _ _ _ wa.drew
    have rz : Row wa.drew B 44 (wcs M L cs) := hwa
    have belz : Below w.heap.size w wa.drew := nwa.below.trans ((Below.refl _ _).drew)
    generalize wa.drew = wz at rz belz ⊢
    clear hwa nwa Be
    clear wa
    have hS : Below wz.heap.size wz wz := Below.refl _ _
    refine h_take 0 (.int .u32 (s : Int)) rfl 7 rfl (by kernel_rfl) (by kernel_rfl) (by kernel_rfl) (by kernel_rfl) (fun _ _ _ h => h) (fun w' _ => by kernel_rfl) hS ?_
    simp only [Act.put, List.setIfInBounds_toArray, List.set_cons_zero, List.set_cons_succ]
    refine h_take 1 (.bool false) rfl 8 rfl (by kernel_rfl) (by kernel_rfl) (by kernel_rfl) (by kernel_rfl) (fun _ _ _ h => h) (fun w' _ => (run_op_lssI _ _ .u32 (by kernel_rfl) _ _ rfl .u32 _ _ rfl rfl w').trans (by rw [hd.out])) hS ?_
    simp only [Act.put, List.setIfInBounds_toArray, List.set_cons_zero, List.set_cons_succ]
    refine h_take 2 (.bool false) rfl 9 rfl (by kernel_rfl) (by kernel_rfl) (by kernel_rfl) (by kernel_rfl) (fun _ _ _ h => h) (fun w' _ => by kernel_rfl) hS ?_
    simp only [Act.put, List.setIfInBounds_toArray, List.set_cons_zero, List.set_cons_succ]
    refine h_take 3 (.int .u32 (s : Int)) rfl 10 rfl (by kernel_rfl) (by kernel_rfl) (by kernel_rfl) (by kernel_rfl) (fun _ _ _ h => h) (fun w' _ => by kernel_rfl) hS ?_
    simp only [Act.put, List.setIfInBounds_toArray, List.set_cons_zero, List.set_cons_succ]
    refine h_take 5 (.pointer (some ⟨B, 1, none⟩)) rfl 12 rfl (by kernel_rfl) (by kernel_rfl) (by kernel_rfl) (by kernel_rfl) (fun _ _ _ h => h) (fun w' _ => by kernel_rfl) hS ?_
    simp only [Act.put, List.setIfInBounds_toArray, List.set_cons_zero, List.set_cons_succ]
    refine h_take 6 (.pointer (some ⟨B, 1, none⟩)) rfl 13 rfl (by kernel_rfl) (by kernel_rfl) (by kernel_rfl) (by kernel_rfl) (fun _ _ _ h => h) (fun w' _ => by kernel_rfl) hS ?_
    simp only [Act.put, List.setIfInBounds_toArray, List.set_cons_zero, List.set_cons_succ]
    refine h_take 7 (.int .u32 (L : Int)) rfl 14 rfl (by kernel_rfl) (by kernel_rfl) (by kernel_rfl) (by kernel_rfl) (fun _ _ _ h => h) (fun w' hC => run_op_load32 _ rfl _ rfl _ ((rz.old hC).cell (wcs_get1 M L cs))) hS ?_
    simp only [Act.put, List.setIfInBounds_toArray, List.set_cons_zero, List.set_cons_succ]
    refine h_one (i := 4) (by kernel_rfl) (o_call rfl 11 rfl (by kernel_rfl) (run_op_call 37 _ _ rfl #[.int .u32 (s : Int)] (by simp only [List.map_toArray, List.map_cons, List.map_nil]; rfl) Tryz.func37 (by kernel_rfl) (by kernel_rfl) _) ((CSUB _).out) ?_)
    rintro e y ⟨rfl, rfl⟩
    refine ⟨_, rfl, hS, ?_⟩
    simp only [Act.put, List.setIfInBounds_toArray, List.set_cons_zero, List.set_cons_succ]
    refine h_take 8 (.bool v) rfl 15 rfl (by kernel_rfl) (by kernel_rfl) (by kernel_rfl) (by kernel_rfl) (fun _ _ _ h => h) (fun w' _ => (run_op_leqI _ _ .u32 (by kernel_rfl) _ _ rfl .u32 _ _ rfl rfl w').trans (by rw [HV.out])) hS ?_
    simp only [Act.put, List.setIfInBounds_toArray, List.set_cons_zero, List.set_cons_succ]
    refine h_take 9 (.bool v) rfl 16 rfl (by kernel_rfl) (by kernel_rfl) (by kernel_rfl) (by kernel_rfl) (fun _ _ _ h => h) (fun w' _ => by kernel_rfl) hS ?_
    simp only [Act.put, List.setIfInBounds_toArray, List.set_cons_zero, List.set_cons_succ]
    refine wpAnyH_done (by kernel_rfl) ?_ _
    have cB := rz.cell (wcs_get0 M L cs)
    by_cases hu : u ≤ L
    · obtain rfl : v = true := by rw [hv]; exact decide_eq_true (by omega)
      obtain rfl : M = rv := by rw [HRV.out, if_pos (Or.inr hu)]
      clear hv HV HRV CBF CSUB HBE
      go_wp2_with fail
      go_ret
      exact ⟨rfl, belz⟩
    · obtain rfl : v = false := by rw [hv]; exact decide_eq_false (by omega)
      have HR2 : Hid (rv = min M bn) := by rw [HRV.out]; exact if_neg (by omega)
      obtain rfl := HBE.out (by omega)
      clear hv HV HRV HBE cB
      go_wp2_with fail
      refine wp_region_held (S := fun w' => Below wz.drew.heap.size wz.drew w') (by kernel_rfl) ?_
      change wpAnyH _ _ _ _ _ _ _ _ wz.drew
      have rx : Row wz.drew B 44 (wcs M L cs) := rz
      have belx : Below w.heap.size w wz.drew := belz.trans ((Below.refl _ _).drew)
      generalize wz.drew = wx at rx belx ⊢
      clear rz belz hS
      clear wz
      have hS : Below wx.heap.size wx wx := Below.refl _ _
      refine h_take 0 (.pointer (some ⟨B, 1, none⟩)) rfl 20 rfl (by kernel_rfl) (by kernel_rfl) (by kernel_rfl) (by kernel_rfl) (fun _ _ _ h => h) (fun w' _ => by kernel_rfl) hS ?_
      simp only [Act.put, List.setIfInBounds_toArray, List.set_cons_zero, List.set_cons_succ]
      refine h_take 1 (.agg (rcs L cs).toArray) rfl 21 rfl (by kernel_rfl) (by kernel_rfl) (by kernel_rfl) (by kernel_rfl) (fun _ _ _ h => h) (fun w' hC => run_op_load _ _ rfl B 1 rfl (rcs L cs) (row_ring (rx.old hC)) (sz_rref' HL.out)) hS ?_
      simp only [Act.put, List.setIfInBounds_toArray, List.set_cons_zero, List.set_cons_succ]
      refine h_take 2 (.int .u32 (s : Int)) rfl 22 rfl (by kernel_rfl) (by kernel_rfl) (by kernel_rfl) (by kernel_rfl) (fun _ _ _ h => h) (fun w' _ => by kernel_rfl) hS ?_
      simp only [Act.put, List.setIfInBounds_toArray, List.set_cons_zero, List.set_cons_succ]
      refine h_one (i := 3) (by kernel_rfl) (o_call rfl 23 rfl (by kernel_rfl) (run_op_call 37 _ _ rfl #[.int .u32 (s : Int)] (by simp only [List.map_toArray, List.map_cons, List.map_nil]; rfl) Tryz.func37 (by kernel_rfl) (by kernel_rfl) _) ((CSUB _).out) ?_)
      rintro e y ⟨rfl, rfl⟩
      refine ⟨_, rfl, hS, ?_⟩
      simp only [Act.put, List.setIfInBounds_toArray, List.set_cons_zero, List.set_cons_succ]
      refine h_one (i := 4) (by kernel_rfl) (o_call rfl 24 rfl (by kernel_rfl) (run_op_call 40 _ _ rfl #[.agg (rcs L cs).toArray, .int .u32 (u : Int)] (by simp only [List.map_toArray, List.map_cons, List.map_nil]; rfl) Tryz.func40 (by kernel_rfl) (by kernel_rfl) _) ((CBF _).out) ?_)
      rintro e y1 ⟨rfl, hB1⟩
      have hS1 : Below wx.heap.size wx y1 := below_step hS hS.size hB1
      refine ⟨_, rfl, hS1, ?_⟩
      clear hB1
      simp only [Act.put, List.setIfInBounds_toArray, List.set_cons_zero, List.set_cons_succ]
      refine h_take 5 (.tuple #[.int .u32 (bn : Nat), .int .i64 0]) rfl 19 rfl (by kernel_rfl) (by kernel_rfl) (by kernel_rfl) (by kernel_rfl) (fun _ _ _ h => h) (fun w' _ => by kernel_rfl) hS1 ?_
      simp only [Act.put, List.setIfInBounds_toArray, List.set_cons_zero, List.set_cons_succ]
      refine h_take 6 (.int .u32 (bn : Nat)) rfl 25 rfl (by kernel_rfl) (by kernel_rfl) (by kernel_rfl) (by kernel_rfl) (fun _ _ _ h => h) (fun w' _ => by kernel_rfl) hS1 ?_
      simp only [Act.put, List.setIfInBounds_toArray, List.set_cons_zero, List.set_cons_succ]
      refine h_take 7 (.int .i64 0) rfl 26 rfl (by kernel_rfl) (by kernel_rfl) (by kernel_rfl) (by kernel_rfl) (fun _ _ _ h => h) (fun w' _ => by kernel_rfl) hS1 ?_
      simp only [Act.put, List.setIfInBounds_toArray, List.set_cons_zero, List.set_cons_succ]
      refine h_take 8 (.int .u32 (bn : Nat)) rfl 5 rfl (by kernel_rfl) (by kernel_rfl) (by kernel_rfl) (by kernel_rfl) (fun _ _ _ h => h) (fun w' _ => by kernel_rfl) hS1 ?_
      simp only [Act.put, List.setIfInBounds_toArray, List.set_cons_zero, List.set_cons_succ]
      refine h_take 9 (.int .i64 0) rfl 6 rfl (by kernel_rfl) (by kernel_rfl) (by kernel_rfl) (by kernel_rfl) (fun _ _ _ h => h) (fun w' _ => by kernel_rfl) hS1 ?_
      simp only [Act.put, List.setIfInBounds_toArray, List.set_cons_zero, List.set_cons_succ]
      refine wpAnyH_done (by kernel_rfl) ?_ _
      have bel := below_step belx belx.size hS1
      have cB := (rx.old hS1).cell (wcs_get0 M L cs)
      clear rx belx hS hS1 CBF CSUB
      by_cases hb : bn < M
      · have hdb : decide ((bn : Int) < (M : Int)) = true := decide_eq_true (by omega)
        obtain rfl : bn = rv := by rw [HR2.out]; omega
        clear HR2
        go_wp2_with fail
        go_ret
        exact ⟨rfl, bel⟩
      · have hdb : decide ((bn : Int) < (M : Int)) = false := decide_eq_false (by omega)
        obtain rfl : M = rv := by rw [HR2.out]; omega
        clear HR2
        go_wp2_with fail
        go_ret
        exact ⟨rfl, bel⟩
theorem putM_rel {M L s : Nat} {cs : List Nat} (h : L ≤ s / 3 ∧ atG L cs ((s / 3 : Nat) : Int) < 3) : putM M L cs s = relN M L cs s := if_pos h
end Go.Proofs.YtffpifljeeikfaaGreatDoor.Wn
