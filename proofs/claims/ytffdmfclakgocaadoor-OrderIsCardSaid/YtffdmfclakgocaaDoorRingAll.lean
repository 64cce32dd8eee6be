import Derived.Test.YtffdmfclakgocaaDoorBytAll
import Derived.Test.YtffdmfclakgocaaDoorMemAll
import Derived.Lib.SliceRun
import Derived.Laws.StructEq
import Derived.Test.YtffdmfclakgocaaDoorNumAll
/-
  Rings as cells: a number and four counts; smaller and larger of two numbers; 'clear' of a slice; '==' between rings; a sub-window's ring place (package slot). Over this seat's translation.
-/
namespace Go.Proofs.YtffdmfclakgocaaDoor.Rg
open Go.ChangeShapes Go.WideShapes Go.ChangeAt Go.RowKit Go.Proofs.YtffdmfclakgocaaDoor.Mem Go.Proofs.YtffdmfclakgocaaDoor.Bt
set_option linter.unusedVariables false
set_option maxRecDepth 100000

/-- A ring's cells. -/
def rcs (L : Nat) (cs : List Nat) : List Value := .int .u32 (L : Int) :: u32s cs
theorem rcs_len {L : Nat} {cs : List Nat} (h : cs.length = 4) : (rcs L cs).length = 5 := by unfold rcs; rw [List.length_cons, u32s_length, h]
theorem rcs_one (L : Nat) (cs : List Nat) : OneCells (rcs L cs) := by
  intro v hv
  unfold rcs at hv
  rcases List.mem_cons.1 hv with rfl | hv
  · rfl
  · exact u32s_one _ v hv
theorem rcs_get0 (L : Nat) (cs : List Nat) : (rcs L cs)[0]? = some (.int .u32 (L : Int)) := rfl
theorem rcs_get {L : Nat} {cs : List Nat} {i : Nat} (h : i < cs.length) : (rcs L cs)[1 + i]? = some (.int .u32 ((cs.getD i 0 : Nat) : Int)) := by
  unfold rcs
  rw [Nat.add_comm, List.getElem?_cons_succ]
  exact u32s_get h
theorem rcs_set0 (L n : Nat) (cs : List Nat) : (rcs L cs).set 0 (.int .u32 (n : Int)) = rcs n cs := rfl
theorem rcs_set (L i n : Nat) (cs : List Nat) : (rcs L cs).set (1 + i) (.int .u32 (n : Int)) = rcs L (cs.set i n) := by
  unfold rcs
  rw [Nat.add_comm, List.set_cons_succ]
  unfold u32s
  rw [List.map_set]
theorem rcs_inj {L M : Nat} {cs ds : List Nat} (h : rcs L cs = rcs M ds) : L = M ∧ cs = ds := by
  unfold rcs u32s at h
  obtain ⟨h1, h2⟩ := List.cons.inj h
  refine ⟨by injection h1 with _ h; omega, ?_⟩
  have := congrArg (List.map (fun v : Value => match v with | .int _ n => n.toNat | _ => 0)) h2
  simpa [List.map_map, Function.comp_def] using this
theorem four {cs : List Nat} (h : cs.length = 4) : ∃ a b c d, cs = [a, b, c, d] := by
  match cs, h with
  | [a, b, c, d], _ => exact ⟨a, b, c, d, rfl⟩
theorem z_ring : Mem.Zero Tryd.prog 27 (rcs 0 [0, 0, 0, 0]) := by unfold Mem.Zero; kernel_rfl
theorem sz_ring : Sized Tryd.prog 27 5 := ⟨.struct (Tryd.prog.fieldsOf 27), by kernel_rfl, rfl, by kernel_rfl⟩
theorem sz_ring' {L : Nat} {cs : List Nat} (h : cs.length = 4) : Sized Tryd.prog 27 (rcs L cs).length := by rw [rcs_len h]; exact sz_ring
theorem sz_arr : Sized Tryd.prog 25 4 := ⟨.array 4 24, by kernel_rfl, rfl, by kernel_rfl⟩
theorem sz_arr' {cs : List Nat} (h : cs.length = 4) : Sized Tryd.prog 25 (u32s cs).length := by rw [u32s_length, h]; exact sz_arr
theorem z_rref : Mem.Zero Tryd.prog 44 (rcs 0 [0, 0, 0, 0]) := by unfold Mem.Zero; kernel_rfl
theorem sz_rref : Sized Tryd.prog 44 5 := ⟨.struct (Tryd.prog.fieldsOf 44), by kernel_rfl, rfl, by kernel_rfl⟩
theorem sz_rref' {L : Nat} {cs : List Nat} (h : cs.length = 4) : Sized Tryd.prog 44 (rcs L cs).length := by rw [rcs_len h]; exact sz_rref
theorem row_all {w : World} {b : Nat} {t : TypeId} {cs : List Value} (h : Row w b t cs) : w.rangeAt b 0 cs := h.range 0 _ (fun j v hj => by rw [Nat.zero_add]; exact hj)
theorem row_counts {w : World} {b : Nat} {t : TypeId} {L : Nat} {cs : List Nat} (h : Row w b t (rcs L cs)) : w.rangeAt b 1 (u32s cs) := h.range 1 _ (fun j v hj => by unfold rcs; rw [Nat.add_comm, List.getElem?_cons_succ]; exact hj)
theorem only_size {w w' : World} {b : Nat} (h : Only b w w') : w.heap.size ≤ w'.heap.size := h.size

section
variable {P : Program} {ops : Array Oper} {rest : List Oper} {o : Oper} {a : Act} {w : World} {Q : Exit → Act → World → Prop}
/-- The smaller of two numbers. -/
theorem arm_min (hgd : o.guard = none) (x y : Operand) (ats : Array TypeId) (ho : o.op = .call { callee := .builtin .min, args := #[x, y], argTypes := ats }) (k : IntKind) (m n : Int) (hx : a.eval x = .int k m) (hy : a.eval y = .int k n)
    (r : Nat) (hr : (if n < m then n else m) = (r : Int)) (h : wpList P ops Q rest (a.put o.dst (.int k (r : Int))) w) : wpList P ops Q (o :: rest) a w := by
  obtain ⟨dst, op, ty, pos, after, guard⟩ := o
  simp only at hgd ho
  subst hgd ho
  refine wpList_plain rfl fun K hK => ?_
  unfold Oper.wp
  have he : (execOp a.eval { dst := dst, op := Op.call { callee := .builtin .min, args := #[x, y], argTypes := ats }, type := ty, pos := pos, after := after, guard := none }).run P w = .ok (.value (.int k (r : Int))) w := by
    rw [BigFrame.execOp_builtin, BigFrame.builtin_min]
    simp only [List.map_toArray, List.map_cons, List.map_nil, hx, hy, Sem.run_bind, Builtin.min_, List.foldlM_cons, List.foldlM_nil, Builtin.min2, hr, Result.andThen_ok, Sem.run_pure]
  rw [he]
  exact hK _ _ h
/-- The larger of two numbers. -/
theorem arm_max (hgd : o.guard = none) (x y : Operand) (ats : Array TypeId) (ho : o.op = .call { callee := .builtin .max, args := #[x, y], argTypes := ats }) (k : IntKind) (m n : Int) (hx : a.eval x = .int k m) (hy : a.eval y = .int k n)
    (r : Nat) (hr : (if m < n then n else m) = (r : Int)) (h : wpList P ops Q rest (a.put o.dst (.int k (r : Int))) w) : wpList P ops Q (o :: rest) a w := by
  obtain ⟨dst, op, ty, pos, after, guard⟩ := o
  simp only at hgd ho
  subst hgd ho
  refine wpList_plain rfl fun K hK => ?_
  unfold Oper.wp
  have he : (execOp a.eval { dst := dst, op := Op.call { callee := .builtin .max, args := #[x, y], argTypes := ats }, type := ty, pos := pos, after := after, guard := none }).run P w = .ok (.value (.int k (r : Int))) w := by
    rw [BigFrame.execOp_builtin, BigFrame.builtin_max]
    simp only [List.map_toArray, List.map_cons, List.map_nil, hx, hy, Sem.run_bind, Builtin.max_, List.foldlM_cons, List.foldlM_nil, Builtin.max2, hr, Result.andThen_ok, Sem.run_pure]
  rw [he]
  exact hK _ _ h
/-- 'clear(s)' of numbers of a row. -/
theorem arm_clear (hgd : o.guard = none) (x : Operand) (t : TypeId) (ho : o.op = .call { callee := .builtin .clear, args := #[x], argTypes := #[t] }) (e : TypeId) (hu : P.underlying t = some (.slice e)) (z : Value) (hz : ∀ w, (zeroValue e).run P w = .ok z w) (hzc : z.cells = #[z]) (hz1 : z.oneCell' = true)
    (b off n c : Nat) (hx : a.eval x = .slice (some ⟨b, off, none⟩) (n + 1) c) (u : TypeId) (cs : List Value) (hr : Row w b u cs) (hf : off + (n + 1) ≤ cs.length)
    (h : ∀ w2, Row w2 b u (lay cs off (List.replicate (n + 1) z)) → Only b w w2 → Hid (w2.heap.size = w.heap.size) → wpList P ops Q rest (a.put o.dst (.tuple #[])) w2) : wpList P ops Q (o :: rest) a w := by
  obtain ⟨dst, op, ty, pos, after, guard⟩ := o
  simp only at hgd ho
  subst hgd ho
  refine wpList_plain rfl fun K hK => ?_
  have hzl : (Builtin.zeroCells z.cells (n + 1)).toList = List.replicate (n + 1) z := by
    rw [hzc]
    simp [Builtin.zeroCells]
    apply List.ext_getElem
    · simp
    · intro i h1 h2
      simp [Nat.mod_one]
  have hst := run_storeCells_at P b off u (List.replicate (n + 1) z) 0 cs.toArray w hr (by simpa using hf) (by intro v hv; rw [List.eq_of_mem_replicate hv]; exact hz1)
  simp only [Nat.add_zero] at hst
  unfold Oper.wp
  have he : (execOp a.eval { dst := dst, op := Op.call { callee := .builtin .clear, args := #[x], argTypes := #[t] }, type := ty, pos := pos, after := after, guard := none }).run P w = .ok (.value (.tuple #[])) (w.setRow b (lay cs off (List.replicate (n + 1) z)).toArray) := by
    rw [BigFrame.execOp_builtin, BigFrame.builtin_clear]
    simp only [List.map_toArray, List.map_cons, List.map_nil, hx, Sem.run_bind, Sem.run_pure]
    simp [Builtin.clear_, run_underlying hu, hz, hzl, hst, lay, Result.andThen]
  rw [he]
  exact hK _ _ (h _ (row_setRow hr _) (Only.setRow _ _ _) (by simp [Hid]))
end

/-! ### '==' between rings. -/
theorem part_u32s (xs : List Nat) (i : Nat) (hi : i < xs.length) (w : World) : (part 24 (u32s xs).toArray i).run Tryd.prog w = .ok (.int .u32 ((xs.getD i 0 : Nat) : Int)) w := by
  have hu : Tryd.prog.underlying 24 = some (.int .u32) := by kernel_rfl
  have hg := u32s_get hi
  simp [part, isAgg, run_underlying hu, hg]
theorem eq_num (d m n : Nat) (w : World) : (Op.equalIn (d + 1) 24 (.int .u32 (m : Int)) (.int .u32 (n : Int))).run Tryd.prog w = .ok (decide (m = n)) w := by
  have hu : Tryd.prog.underlying 24 = some (.int .u32) := by kernel_rfl
  rw [run_equalIn_int w d 24 .u32 .u32 m n hu]
  congr 1
  by_cases h : m = n
  · simp [h]
  · have : ((m : Int) == (n : Int)) = false := beq_eq_false_iff_ne.2 (by omega)
    rw [this]; simp [h]
theorem getD_ext {xs ys : List Nat} (h : xs.length = ys.length) (hg : ∀ i, i < xs.length → xs.getD i 0 = ys.getD i 0) : xs = ys := by
  apply List.ext_getElem h
  intro i h1 h2
  have := hg i h1
  rwa [List.getD_eq_getElem?_getD, List.getD_eq_getElem?_getD, List.getElem?_eq_getElem h1, List.getElem?_eq_getElem h2] at this
theorem eq_arr (d : Nat) (xs ys : List Nat) (hx : xs.length = 4) (hy : ys.length = 4) (w : World) :
    (Op.equalIn (d + 2) 25 (.agg (u32s xs).toArray) (.agg (u32s ys).toArray)).run Tryd.prog w = .ok (decide (xs = ys)) w := by
  have hu : Tryd.prog.underlying 25 = some (.array 4 24) := by kernel_rfl
  have hs : (sizeOf 24).run Tryd.prog w = .ok 1 w := by kernel_rfl
  unfold Op.equalIn
  simp only [Sem.run_bind, run_underlying hu, Result.andThen_ok, hs]
  have key : ∀ l : List Nat, (∀ i ∈ l, i < 4) → (forIn (m := Sem) l ((none : Option Bool), ()) fun i __s => do
      let a ← part 24 (u32s xs).toArray (i * 1)
      let b ← part 24 (u32s ys).toArray (i * 1)
      let r ← Op.equalIn (d + 1) 24 a b
      if (!r) = true then pure (ForInStep.done (some false, ())) else pure (ForInStep.yield (none, ()))).run Tryd.prog w = .ok (if ∀ i ∈ l, xs.getD i 0 = ys.getD i 0 then (none, ()) else (some false, ())) w := by
    intro l
    induction l with
    | nil => intro _; simp
    | cons i l ih =>
      intro h
      have hi := h i (by simp)
      rw [List.forIn_cons]
      simp only [Sem.run_bind, Nat.mul_one, part_u32s xs i (by omega) w, part_u32s ys i (by omega) w, Result.andThen_ok, eq_num]
      by_cases he : xs.getD i 0 = ys.getD i 0
      · simp only [he, decide_true, Bool.not_true, Bool.false_eq_true, if_false, Sem.run_pure, Result.andThen_ok]
        have := ih (fun j hj => h j (by simp [hj]))
        simp only [Nat.mul_one] at this
        rw [this]
        simp only [List.mem_cons, forall_eq_or_imp, he, true_and]
      · simp only [he, decide_false, Bool.not_false, if_true, Sem.run_pure, Result.andThen_ok]
        rw [if_neg (fun hc => he (hc i (by simp)))]
  rw [Std.Legacy.Range.forIn_eq_forIn_range']
  rw [key _ (fun i hi => by simp [Std.Legacy.Range.size] at hi; omega)]
  by_cases he : xs = ys
  · subst he; simp
  · have hne : ¬ ∀ i ∈ List.range' 0 (Std.Legacy.Range.size ⟨0, 4, 1, by decide⟩) 1, xs.getD i 0 = ys.getD i 0 := fun hc => he (getD_ext (by omega) (fun i hi => hc i (by simp [Std.Legacy.Range.size]; omega)))
    rw [if_neg hne]
    simp [he]
theorem part_num (L : Nat) (cs : List Nat) (w : World) : (part 24 (rcs L cs).toArray 0).run Tryd.prog w = .ok (.int .u32 (L : Int)) w := by
  have hu : Tryd.prog.underlying 24 = some (.int .u32) := by kernel_rfl
  simp [part, isAgg, run_underlying hu, rcs]
theorem part_arr (L : Nat) (cs : List Nat) (h : cs.length = 4) (w : World) : (part 25 (rcs L cs).toArray 1).run Tryd.prog w = .ok (.agg (u32s cs).toArray) w := by
  have hu : Tryd.prog.underlying 25 = some (.array 4 24) := by kernel_rfl
  have hs : (sizeOf 25).run Tryd.prog w = .ok 4 w := by kernel_rfl
  obtain ⟨a, b, c, d, rfl⟩ := four h
  simp [part, isAgg, run_underlying hu, rcs, u32s]
/-- The two fields of a ring. -/
structure Fields (fs : List Field) : Prop where
  ex : ∃ f g : Field, fs = [f, g] ∧ f.name ≠ "_" ∧ f.type = 24 ∧ f.offset = 0 ∧ g.name ≠ "_" ∧ g.type = 25 ∧ g.offset = 1
theorem fields_of {fs : List Field} (h : fs.map (fun f => (f.name, f.type, f.offset)) = [("Last", 24, 0), ("Counts", 25, 1)]) : Fields fs := by
  have hl : fs.length = 2 := by have := congrArg List.length h; simpa using this
  match fs, hl with
  | [f, g], _ =>
    simp only [List.map_cons, List.map_nil, List.cons.injEq, Prod.mk.injEq, and_true] at h
    obtain ⟨⟨h1, h2, h3⟩, h4, h5, h6⟩ := h
    exact ⟨f, g, rfl, by rw [h1]; decide, h2, h3, by rw [h4]; decide, h5, h6⟩
theorem fields_ring : Fields (Tryd.prog.fieldsOf 27).toList := fields_of (by kernel_rfl)
theorem fields_rref : Fields (Tryd.prog.fieldsOf 44).toList := fields_of (by kernel_rfl)
theorem eq_ringF (t : TypeId) (hU : Tryd.prog.underlying t = some (.struct (Tryd.prog.fieldsOf t))) (hp : Tryd.prog.stoodInHeld t = false) (hF : Fields (Tryd.prog.fieldsOf t).toList) (d L M : Nat) (xs ys : List Nat) (hx : xs.length = 4) (hy : ys.length = 4) (w : World) :
    (Op.equalIn (d + 3) t (.agg (rcs L xs).toArray) (.agg (rcs M ys).toArray)).run Tryd.prog w = .ok (decide (L = M ∧ xs = ys)) w := by
  rw [run_equalIn_struct w (d + 2) t _ _ hU hp]
  obtain ⟨f, g, hfs, n1, t1, o1, n2, t2, o2⟩ := hF.ex
  rw [hfs]
  simp only [Op.eqFields, n1, n2, ne_eq, not_false_eq_true, if_true, t1, t2, o1, o2, Sem.run_bind, part_num, Result.andThen_ok, eq_num]
  by_cases h1 : L = M
  · by_cases h2 : xs = ys
    · simp [h1, h2, part_arr _ _ hy, eq_arr d ys ys hy hy]
    · simp [h1, h2, part_arr _ _ hx, part_arr _ _ hy, eq_arr d xs ys hx hy]
  · simp [h1]
theorem eq_ring (d L M : Nat) (xs ys : List Nat) (hx : xs.length = 4) (hy : ys.length = 4) (w : World) :
    (Op.equalIn (d + 3) 27 (.agg (rcs L xs).toArray) (.agg (rcs M ys).toArray)).run Tryd.prog w = .ok (decide (L = M ∧ xs = ys)) w :=
  eq_ringF _ (by kernel_rfl) (by kernel_rfl) fields_ring d L M xs ys hx hy w
theorem eq_rref (d L M : Nat) (xs ys : List Nat) (hx : xs.length = 4) (hy : ys.length = 4) (w : World) :
    (Op.equalIn (d + 3) 44 (.agg (rcs L xs).toArray) (.agg (rcs M ys).toArray)).run Tryd.prog w = .ok (decide (L = M ∧ xs = ys)) w :=
  eq_ringF _ (by kernel_rfl) (by kernel_rfl) fields_rref d L M xs ys hx hy w
section
variable {o : Oper} {a : Act}
theorem run_op_eqlR (x y : Operand) (t' : TypeId) (ho : o.op = .binOp .eql 27 x y t') (L M : Nat) (xs ys : List Nat) (hlx : xs.length = 4) (hly : ys.length = 4) (hx : a.eval x = .agg (rcs L xs).toArray) (hy : a.eval y = .agg (rcs M ys).toArray) (w : World) :
    (execOp a.eval o).run Tryd.prog w = .ok (.value (.bool (decide (L = M ∧ xs = ys)))) w := by
  unfold execOp
  simp only [ho, hx, hy, Sem.run_bind, run_eqGuard_agg w _ _ _ _ _ _ (show Tryd.prog.eqGuardType Tryd.prog.depth 27 = false by kernel_rfl), Result.andThen_ok, binOp, Op.equal, Op.maxDepth, eq_ring 9997 L M xs ys hlx hly w, Sem.run_pure]
theorem run_op_neqR (x y : Operand) (t' : TypeId) (ho : o.op = .binOp .neq 27 x y t') (L M : Nat) (xs ys : List Nat) (hlx : xs.length = 4) (hly : ys.length = 4) (hx : a.eval x = .agg (rcs L xs).toArray) (hy : a.eval y = .agg (rcs M ys).toArray) (w : World) :
    (execOp a.eval o).run Tryd.prog w = .ok (.value (.bool (!decide (L = M ∧ xs = ys)))) w := by
  unfold execOp
  simp only [ho, hx, hy, Sem.run_bind, run_eqGuard_agg w _ _ _ _ _ _ (show Tryd.prog.eqGuardType Tryd.prog.depth 27 = false by kernel_rfl), Result.andThen_ok, binOp, Op.equal, Op.maxDepth, eq_ring 9997 L M xs ys hlx hly w, Sem.run_pure]
theorem run_op_eqlRR (x y : Operand) (t' : TypeId) (ho : o.op = .binOp .eql 44 x y t') (L M : Nat) (xs ys : List Nat) (hlx : xs.length = 4) (hly : ys.length = 4) (hx : a.eval x = .agg (rcs L xs).toArray) (hy : a.eval y = .agg (rcs M ys).toArray) (w : World) :
    (execOp a.eval o).run Tryd.prog w = .ok (.value (.bool (decide (L = M ∧ xs = ys)))) w := by
  unfold execOp
  simp only [ho, hx, hy, Sem.run_bind, run_eqGuard_agg w _ _ _ _ _ _ (show Tryd.prog.eqGuardType Tryd.prog.depth 44 = false by kernel_rfl), Result.andThen_ok, binOp, Op.equal, Op.maxDepth, eq_rref 9997 L M xs ys hlx hly w, Sem.run_pure]
end

/-! ### A sub-window's ring place. -/
end Go.Proofs.YtffdmfclakgocaaDoor.Rg

/-
  What a ring tells, over numbers and lists: how many blocks a sub-window has, the ring as of a later sub-window, with one block more; which rings are right.
-/
namespace Go.Proofs.YtffdmfclakgocaaDoor.Rg
open Go.Proofs.YtffdmfclakgocaaDoor.Mem Go.Proofs.YtffdmfclakgocaaDoor.Bt
set_option linter.unusedVariables false

/-- How many blocks a ring tells of a sub-window. -/
def atG (L : Nat) (cs : List Nat) (g : Int) : Nat := if (L : Int) - 4 < g ∧ g ≤ (L : Int) then cs.getD (g % 4).toNat 0 else 0
/-- The latest sub-window of a ring place that isn't behind s. -/
def lat (s : Int) (p : Nat) : Int := s - (s - (p : Int)) % 4
theorem lat_mod (s : Int) {p : Nat} (h : p < 4) : (lat s p) % 4 = (p : Int) := by unfold lat; omega
theorem lat_le (s : Int) (p : Nat) : lat s p ≤ s := by unfold lat; omega
theorem lat_gt (s : Int) (p : Nat) : s - 4 < lat s p := by unfold lat; omega
theorem lat_of (s g : Int) (p : Nat) (h1 : s - 4 < g) (h2 : g ≤ s) (h3 : g % 4 = (p : Int)) : lat s p = g := by unfold lat; omega
/-- The counts as of a later sub-window, if no block comes up to there. -/
def mvd (L : Nat) (cs : List Nat) (s : Nat) : List Nat := [atG L cs (lat s 0), atG L cs (lat s 1), atG L cs (lat s 2), atG L cs (lat s 3)]
theorem mvd_len (L : Nat) (cs : List Nat) (s : Nat) : (mvd L cs s).length = 4 := rfl
theorem mvd_getD (L : Nat) (cs : List Nat) (s : Nat) {i : Nat} (h : i < 4) : (mvd L cs s).getD i 0 = atG L cs (lat s i) := by
  obtain rfl | rfl | rfl | rfl : i = 0 ∨ i = 1 ∨ i = 2 ∨ i = 3 := by omega
  all_goals rfl
theorem atG_in {L : Nat} {cs : List Nat} {g : Int} (h1 : (L : Int) - 4 < g) (h2 : g ≤ (L : Int)) : atG L cs g = cs.getD (g % 4).toNat 0 := if_pos ⟨h1, h2⟩
theorem atG_out {L : Nat} {cs : List Nat} {g : Int} (h : g ≤ (L : Int) - 4 ∨ (L : Int) < g) : atG L cs g = 0 := if_neg (by omega)
theorem atG_lat (L : Nat) (cs : List Nat) {i : Nat} (h : i < 4) : atG L cs (lat L i) = cs.getD i 0 := by
  rw [atG_in (lat_gt _ _) (lat_le _ _), lat_mod _ h]
  rfl
theorem set_getD (l : List Nat) (i j n : Nat) (h : i < l.length) : (l.set i n).getD j 0 = if i = j then n else l.getD j 0 := by
  rw [List.getD_eq_getElem?_getD, List.getElem?_set, List.getD_eq_getElem?_getD]
  by_cases e : i = j
  · subst e; simp [h]
  · simp [e]
theorem mvd_self {L : Nat} {cs : List Nat} (h : cs.length = 4) : mvd L cs L = cs :=
  getD_ext (by rw [mvd_len, h]) fun i hi => by rw [mvd_getD _ _ _ hi, atG_lat _ _ hi]
theorem mvd_step {L s : Nat} {cs : List Nat} (h : L ≤ s) : (mvd L cs s).set ((s + 1) % 4) 0 = mvd L cs (s + 1) := by
  refine getD_ext (by rw [List.length_set, mvd_len, mvd_len]) fun i hi => ?_
  rw [List.length_set, mvd_len] at hi
  rw [set_getD _ _ _ _ (by rw [mvd_len]; omega), mvd_getD _ _ _ hi]
  split
  · rename_i he
    rw [mvd_getD _ _ _ hi, lat_of ((s + 1 : Nat) : Int) ((s + 1 : Nat) : Int) i (by omega) (by omega) (by omega), atG_out (by omega)]
  · rename_i he
    rw [mvd_getD _ _ _ hi]
    congr 1
    unfold lat; omega
theorem mvd_far {L s : Nat} {cs : List Nat} (h : L + 4 ≤ s) : mvd L cs s = [0, 0, 0, 0] := by
  refine getD_ext rfl fun i hi => ?_
  rw [mvd_len] at hi
  rw [mvd_getD _ _ _ hi, atG_out (.inr (by have := lat_gt s i; omega))]
  obtain rfl | rfl | rfl | rfl : i = 0 ∨ i = 1 ∨ i = 2 ∨ i = 3 := by omega
  all_goals rfl
/-- What the ring as of a later sub-window tells is what the ring tells. -/
theorem atG_mvd {L s : Nat} {cs : List Nat} {g : Int} (h1 : (s : Int) - 4 < g) (h2 : g ≤ (s : Int)) : atG s (mvd L cs s) g = atG L cs g := by
  rw [atG_in h1 h2, mvd_getD _ _ _ (by omega), lat_of (s : Int) g _ h1 h2 (by omega)]
/-- The four counts together. -/
def sumc (cs : List Nat) : Nat := cs.getD 0 0 + cs.getD 1 0 + cs.getD 2 0 + cs.getD 3 0
theorem sumc_mvd (L s : Nat) (cs : List Nat) : sumc (mvd L cs s) = atG L cs s + atG L cs (s - 1) + atG L cs (s - 2) + atG L cs (s - 3) := by
  unfold sumc
  rw [mvd_getD _ _ _ (by omega), mvd_getD _ _ _ (by omega), mvd_getD _ _ _ (by omega), mvd_getD _ _ _ (by omega)]
  obtain h | h | h | h : s % 4 = 0 ∨ s % 4 = 1 ∨ s % 4 = 2 ∨ s % 4 = 3 := by omega
  · rw [lat_of (s : Int) s 0 (by omega) (by omega) (by omega), lat_of (s : Int) (s - 3) 1 (by omega) (by omega) (by omega), lat_of (s : Int) (s - 2) 2 (by omega) (by omega) (by omega), lat_of (s : Int) (s - 1) 3 (by omega) (by omega) (by omega)]; omega
  · rw [lat_of (s : Int) (s - 1) 0 (by omega) (by omega) (by omega), lat_of (s : Int) s 1 (by omega) (by omega) (by omega), lat_of (s : Int) (s - 3) 2 (by omega) (by omega) (by omega), lat_of (s : Int) (s - 2) 3 (by omega) (by omega) (by omega)]; omega
  · rw [lat_of (s : Int) (s - 2) 0 (by omega) (by omega) (by omega), lat_of (s : Int) (s - 1) 1 (by omega) (by omega) (by omega), lat_of (s : Int) s 2 (by omega) (by omega) (by omega), lat_of (s : Int) (s - 3) 3 (by omega) (by omega) (by omega)]; omega
  · rw [lat_of (s : Int) (s - 3) 0 (by omega) (by omega) (by omega), lat_of (s : Int) (s - 2) 1 (by omega) (by omega) (by omega), lat_of (s : Int) (s - 1) 2 (by omega) (by omega) (by omega), lat_of (s : Int) s 3 (by omega) (by omega) (by omega)]; omega
/-- No count is above three. -/
def Small (cs : List Nat) : Prop := ∀ i, i < 4 → cs.getD i 0 ≤ 3
/-- A ring that may be. -/
def Rt (L : Nat) (cs : List Nat) : Prop := Small cs ∧ 1 ≤ cs.getD (L % 4) 0
instance (cs : List Nat) : Decidable (Small cs) := by unfold Small; exact inferInstance
instance (L : Nat) (cs : List Nat) : Decidable (Rt L cs) := by unfold Rt; exact inferInstance
theorem atG_small {L : Nat} {cs : List Nat} (h : Small cs) (g : Int) : atG L cs g ≤ 3 := by
  unfold atG
  split
  · exact h _ (by omega)
  · omega
theorem mvd_small {L s : Nat} {cs : List Nat} (h : Small cs) : Small (mvd L cs s) := fun i hi => by rw [mvd_getD _ _ _ hi]; exact atG_small h _
theorem sumc_small {cs : List Nat} (h : Small cs) : sumc cs ≤ 12 := by
  have h0 := h 0 (by omega); have h1 := h 1 (by omega); have h2 := h 2 (by omega); have h3 := h 3 (by omega)
  unfold sumc; omega
theorem mvd_lt {n L s : Nat} {cs : List Nat} (h : AllLt n cs) (hn : 0 < n) : AllLt n (mvd L cs s) := by
  intro x hx
  unfold mvd at hx
  simp only [List.mem_cons, List.not_mem_nil, or_false] at hx
  rcases hx with rfl | rfl | rfl | rfl <;>
  · unfold atG
    split
    · exact getD_lt h hn _
    · exact hn
theorem small_lt {cs : List Nat} (h : Small cs) (hl : cs.length = 4) : AllLt 4 cs := by
  obtain ⟨a, b, c, d, rfl⟩ := four hl
  have h0 := h 0 (by omega); have h1 := h 1 (by omega); have h2 := h 2 (by omega); have h3 := h 3 (by omega)
  simp only [List.getD_cons_zero, List.getD_cons_succ] at h0 h1 h2 h3
  intro x hx
  simp only [List.mem_cons, List.not_mem_nil, or_false] at hx
  omega
/-- The counts with one block more in sub-window s. -/
def putd (L : Nat) (cs : List Nat) (s : Nat) : List Nat := (mvd L cs s).set (s % 4) (atG L cs s + 1)
theorem putd_len (L : Nat) (cs : List Nat) (s : Nat) : (putd L cs s).length = 4 := by unfold putd; rw [List.length_set]; rfl
theorem atG_putd {L s : Nat} {cs : List Nat} {g : Int} (h1 : (s : Int) - 4 < g) (h2 : g ≤ (s : Int)) : atG s (putd L cs s) g = atG L cs g + (if g = s then 1 else 0) := by
  unfold putd
  rw [atG_in h1 h2, set_getD _ _ _ _ (by rw [mvd_len]; omega)]
  by_cases e : g = s
  · subst e
    rw [if_pos (by omega), if_pos rfl]
  · rw [if_neg (by omega), if_neg e, mvd_getD _ _ _ (by omega), lat_of (s : Int) g _ h1 h2 (by omega), Nat.add_zero]
theorem putd_small {L s : Nat} {cs : List Nat} (h : Small cs) (hs : atG L cs s < 3) : Small (putd L cs s) := fun i hi => by
  unfold putd
  rw [set_getD _ _ _ _ (by rw [mvd_len]; omega)]
  split
  · omega
  · exact mvd_small h i hi
theorem putd_rt {L s : Nat} {cs : List Nat} (h : Small cs) (hs : atG L cs s < 3) : Rt s (putd L cs s) := ⟨putd_small h hs, by
  unfold putd
  rw [set_getD _ _ _ _ (by rw [mvd_len]; omega), if_pos rfl]; omega⟩
/-- The counts, none of the first k above three. -/
def mn (k : Nat) (cs : List Nat) : List Nat := (cs.take k).map (fun c => min c 3) ++ cs.drop k
theorem mn_len {k : Nat} {cs : List Nat} (h : cs.length = 4) (hk : k ≤ 4) : (mn k cs).length = 4 := by unfold mn; simp [h]; omega
theorem mn_zero (cs : List Nat) : mn 0 cs = cs := rfl
theorem mn_step {k : Nat} {cs : List Nat} (h : cs.length = 4) (hk : k < 4) : (mn k cs).set k (min (cs.getD k 0) 3) = mn (k + 1) cs := by
  obtain ⟨a, b, c, d, rfl⟩ := four h
  obtain rfl | rfl | rfl | rfl : k = 0 ∨ k = 1 ∨ k = 2 ∨ k = 3 := by omega
  all_goals simp [mn]
theorem mn_all {cs : List Nat} (h : cs.length = 4) {i : Nat} (hi : i < 4) : (mn 4 cs).getD i 0 = min (cs.getD i 0) 3 := by
  obtain ⟨a, b, c, d, rfl⟩ := four h
  obtain rfl | rfl | rfl | rfl : i = 0 ∨ i = 1 ∨ i = 2 ∨ i = 3 := by omega
  all_goals rfl
/-- The ring that is right and nearest. -/
def mend (L : Nat) (cs : List Nat) : List Nat := (mn 4 cs).set (L % 4) (max (min (cs.getD (L % 4) 0) 3) 1)
theorem mend_len {L : Nat} {cs : List Nat} (h : cs.length = 4) : (mend L cs).length = 4 := by unfold mend; rw [List.length_set, mn_len h (by omega)]
theorem mend_rt {L : Nat} {cs : List Nat} (h : cs.length = 4) : cs = mend L cs ↔ Rt L cs := by
  have key : ∀ i, i < 4 → (mend L cs).getD i 0 = if L % 4 = i then max (min (cs.getD (L % 4) 0) 3) 1 else min (cs.getD i 0) 3 := fun i hi => by
    unfold mend
    rw [set_getD _ _ _ _ (by rw [mn_len h (by omega)]; omega), mn_all h hi]
  constructor
  · intro e
    have e' : ∀ i, i < 4 → cs.getD i 0 = (mend L cs).getD i 0 := fun i _ => by rw [← e]
    refine ⟨fun i hi => ?_, ?_⟩
    · have := e' i hi
      rw [key i hi] at this
      split at this
      · omega
      · omega
    · have := e' (L % 4) (by omega)
      rw [key _ (by omega), if_pos rfl] at this
      omega
  · intro ⟨h1, h2⟩
    refine getD_ext (by rw [mend_len h, h]) fun i hi => ?_
    rw [h] at hi
    rw [key i hi]
    have := h1 i hi
    split
    · rename_i e; subst e; omega
    · omega
end Go.Proofs.YtffdmfclakgocaaDoor.Rg

/-
  The contracts of package ring's functions over this seat's translation.
-/
namespace Go.Proofs.YtffdmfclakgocaaDoor.Rg
open Go.ChangeShapes Go.WideShapes Go.ChangeAt Go.RowKit Go.Proofs.YtffdmfclakgocaaDoor.Mem Go.Proofs.YtffdmfclakgocaaDoor.Bt
set_option linter.unusedVariables false
set_option linter.unusedSimpArgs false

theorem z_len : (rcs 0 [0, 0, 0, 0]).length = 5 := rfl
theorem genesis_any (w : World) : Calls Tryd.prog 32 #[] w fun e w' => e = .returned (.agg (rcs 0 [1, 3, 3, 3]).toArray) ∧ Below w.heap.size w w' := by
  go_enter Tryd.func32, Tryd.ntmps32
  go_wp2_with (first
    | ((with_reducible refine at_slot 0 ?_); (refine arm_alloc (o := ⟨some 0, _, _, _, _, _⟩) rfl _ rfl (rcs 0 [0, 0, 0, 0]) z_ring ?_); intro R w1 hRe hR1 hN1)
    | ((with_reducible refine at_slot 1 ?_); (refine arm_build (o := ⟨some 1, _, _, _, _, _⟩) rfl _ _ rfl (u32s [1, 3, 3, 3]) (by kernel_rfl) ?_))
    | ((with_reducible refine at_slot 2 ?_); (refine arm_build (o := ⟨some 2, _, _, _, _, _⟩) rfl _ _ rfl (rcs 0 [1, 3, 3, 3]) (by kernel_rfl) ?_))
    | ((with_reducible refine arm_store (o := ⟨none, _, _, _, _, _⟩) rfl _ _ _ rfl R 0 rfl (rcs 0 [1, 3, 3, 3]) rfl _ _ hR1 (by rw [rcs_len rfl, rcs_len rfl]; omega) (rcs_one _ _) (sz_ring' rfl) ?_); intro w2 hR2 hO2 hS2))
  have eR := hRe.out
  refine bodyPost_ret (v := .agg (rcs 0 [1, 3, 3, 3]).toArray) (result_row (p := 0) (ty := 27) (u := 27) (by kernel_rfl) _ w2 R _ rfl (hR2.congr (lay_all _ _ (by rw [rcs_len rfl, rcs_len rfl]))) (sz_ring' rfl)) rfl ⟨rfl, below_only hN1.below hO2 (by omega) (by rw [hN1.size]; omega)⟩

/-! ### Right. -/
structure MnRel (w : World) (L : Nat) (cs : List Nat) (B R : Nat) (i : Value) (wr : World) : Prop where
  ex : ∃ k : Nat, k ≤ 4 ∧ i = .int .i64 k ∧ Row wr B 27 (rcs L (mn k cs))
  res : Row wr R 27 (rcs 0 [0, 0, 0, 0])
  bel : Below w.heap.size w wr
theorem num_le3 (x : Nat) : (if (3 : Int) < (x : Int) then (3 : Int) else (x : Int)) = ((min x 3 : Nat) : Int) := by split <;> omega
theorem num_ge1 (x : Nat) : (if (x : Int) < (1 : Int) then (1 : Int) else (x : Int)) = ((max x 1 : Nat) : Int) := by split <;> omega
theorem eq_mend (L : Nat) {cs : List Nat} (h : cs.length = 4) : decide (L = L ∧ cs = mend L cs) = decide (Rt L cs) := decide_eq_decide.2 (by rw [← mend_rt h]; exact ⟨fun h => h.2, fun h => ⟨rfl, h⟩⟩)
/-! ### moved. -/
def lastOf (w : World) (b : Nat) : Nat := match w.cell? ⟨b, 0, none⟩ with
  | some v => (intOf v).toNat
  | none => 0
theorem lastOf_row {w : World} {b L : Nat} {t : TypeId} {cs : List Nat} (h : Row w b t (rcs L cs)) : lastOf w b = L := by
  unfold lastOf
  rw [h.cell (rcs_get0 L cs)]
  simp [intOf]
structure MvRel (w : World) (L s : Nat) (cs : List Nat) (B R : Nat) (wr : World) : Prop where
  ex : ∃ m : Nat, L ≤ m ∧ m ≤ s ∧ Row wr B 27 (rcs m (mvd L cs m))
  res : Row wr R 27 (rcs 0 [0, 0, 0, 0])
  bel : Below w.heap.size w wr
theorem zero32 (w : World) : (zeroValue 24).run Tryd.prog w = .ok (.int .u32 0) w := by kernel_rfl
theorem lay_zero (L : Nat) {cs : List Nat} (h : cs.length = 4) : lay (rcs L cs) 1 (List.replicate (3 + 1) (.int .u32 0)) = rcs L [0, 0, 0, 0] := by
  obtain ⟨a, b, c, d, rfl⟩ := four h
  rfl
end Go.Proofs.YtffdmfclakgocaaDoor.Rg

/-
  The contracts of package ring's Sum, Before and Put over this seat's translation.
-/
namespace Go.Proofs.YtffdmfclakgocaaDoor.Rg
open Go.ChangeShapes Go.WideShapes Go.ChangeAt Go.RowKit Go.Proofs.YtffdmfclakgocaaDoor.Mem Go.Proofs.YtffdmfclakgocaaDoor.Bt
set_option linter.unusedVariables false
set_option linter.unusedSimpArgs false

/-- The first k counts together. -/
def ps (k : Nat) (cs : List Nat) : Nat := (cs.take k).sum
theorem ps_step {k : Nat} {cs : List Nat} (h : cs.length = 4) (hk : k < 4) : ps (k + 1) cs = ps k cs + cs.getD k 0 := by
  obtain ⟨a, b, c, d, rfl⟩ := four h
  obtain rfl | rfl | rfl | rfl : k = 0 ∨ k = 1 ∨ k = 2 ∨ k = 3 := by omega
  all_goals simp [ps]
  all_goals omega
theorem ps_all {cs : List Nat} (h : cs.length = 4) : ps 4 cs = sumc cs := by
  obtain ⟨a, b, c, d, rfl⟩ := four h
  simp [ps, sumc]
  omega
theorem ps_le {cs : List Nat} (h : cs.length = 4) (hs : Small cs) {k : Nat} (hk : k ≤ 4) : ps k cs ≤ 12 := by
  have hs0 := hs 0 (by omega); have hs1 := hs 1 (by omega); have hs2 := hs 2 (by omega); have hs3 := hs 3 (by omega)
  obtain ⟨a, b, c, d, rfl⟩ := four h
  simp only [List.getD_cons_zero, List.getD_cons_succ] at hs0 hs1 hs2 hs3
  obtain rfl | rfl | rfl | rfl | rfl : k = 0 ∨ k = 1 ∨ k = 2 ∨ k = 3 ∨ k = 4 := by omega
  all_goals simp [ps]
  all_goals omega
structure SmRel (w : World) (L : Nat) (cs : List Nat) (B : Nat) (i s : Value) (wr : World) : Prop where
  ex : ∃ k : Nat, k ≤ 4 ∧ i = .int .i64 k ∧ s = .int .u32 (ps k cs : Nat)
  bel : Below w.heap.size w wr
/-! ### Before. -/
/-- How many blocks are ahead, and why not. -/
def befN (L : Nat) (cs : List Nat) (sub : Nat) : Nat := if sub ≤ L then 0 else sumc (mvd L cs (sub - 1))
def befE (L sub : Nat) : Int := if sub ≤ L then 6 else 0
/-! ### Put. -/
theorem mvd_at {L s : Nat} {cs : List Nat} : (mvd L cs s).getD (s % 4) 0 = atG L cs s := by
  rw [mvd_getD _ _ _ (by omega), lat_of (s : Int) s _ (by omega) (by omega) (by omega)]
end Go.Proofs.YtffdmfclakgocaaDoor.Rg

/-
  The contracts of the document's answers for rings over this seat's translation.
-/
namespace Go.Proofs.YtffdmfclakgocaaDoor.Rg
open Go.ChangeShapes Go.WideShapes Go.ChangeAt Go.RowKit Go.Proofs.YtffdmfclakgocaaDoor.Mem Go.Proofs.YtffdmfclakgocaaDoor.Bt
set_option linter.unusedVariables false
set_option linter.unusedSimpArgs false

/-! ### Right. -/
structure RrRel (w : World) (L : Nat) (cs : List Nat) (B : Nat) (i : Value) (wr : World) : Prop where
  ex : ∃ k : Nat, k ≤ 4 ∧ i = .int .i64 k ∧ ∀ j, j < k → cs.getD j 0 ≤ 3
  row : Row wr B 44 (rcs L cs)
  bel : Below w.heap.size w wr
/-! ### of. -/
structure OfRel (w : World) (L p : Nat) (i : Value) (wr : World) : Prop where
  ex : ∃ g : Int, i = .int .i64 g ∧ lat L p ≤ g ∧ g ≤ L
  bel : Below w.heap.size w wr
theorem tmod4 (g : Int) : ((g.tmod 4 + 4).tmod 4) = g % 4 := by
  rcases Int.le_total 0 g with h | h
  · rw [Int.tmod_eq_emod_of_nonneg h, Int.tmod_eq_emod_of_nonneg (by omega)]; omega
  · have : g.tmod 4 = -((-g) % 4) := by rw [← Int.tmod_eq_emod_of_nonneg (by omega : 0 ≤ -g), Int.neg_tmod]; omega
    rw [this, Int.tmod_eq_emod_of_nonneg (by omega)]; omega
theorem tmod_bd (g : Int) : -4 < g.tmod 4 ∧ g.tmod 4 < 4 := by
  rcases Int.le_total 0 g with h | h
  · rw [Int.tmod_eq_emod_of_nonneg h]; omega
  · have : g.tmod 4 = -((-g) % 4) := by rw [← Int.tmod_eq_emod_of_nonneg (by omega : 0 ≤ -g), Int.neg_tmod]; omega
    rw [this]; omega
/-! ### At. -/
structure AtRel (w : World) (L : Nat) (cs : List Nat) (g : Int) (B : Nat) (i : Value) (wr : World) : Prop where
  ex : ∃ k : Nat, k ≤ 4 ∧ i = .int .i64 k ∧ ∀ j, j < k → lat L j ≠ g
  row : Row wr B 44 (rcs L cs)
  bel : Below w.heap.size w wr
theorem atG_none {L : Nat} {cs : List Nat} {g : Int} (h : ∀ j, j < 4 → lat L j ≠ g) : atG L cs g = 0 := by
  unfold atG
  split
  · rename_i hc
    exact absurd (lat_of (L : Int) g (g % 4).toNat hc.1 hc.2 (by omega)) (h _ (by omega))
  · rfl
/-! ### Sum. -/
/-! ### Before. -/
def bsum (L : Nat) (cs : List Nat) (sub : Nat) : Nat → Nat
  | 0 => 0
  | k + 1 => bsum L cs sub k + atG L cs ((sub : Int) - ((k + 1 : Nat) : Int))
theorem bsum_le {L : Nat} {cs : List Nat} (h : Small cs) (sub k : Nat) : bsum L cs sub k ≤ 3 * k := by
  induction k with
  | zero => exact Nat.le_refl _
  | succ k ih => unfold bsum; have := atG_small (L := L) h ((sub : Int) - ((k + 1 : Nat) : Int)); omega
theorem bsum_all {L sub : Nat} {cs : List Nat} (h : L < sub) : bsum L cs sub 4 = sumc (mvd L cs (sub - 1)) := by
  rw [sumc_mvd]
  simp only [bsum]
  have e1 : ((sub - 1 : Nat) : Int) = (sub : Int) - ((0 + 1 : Nat) : Int) := by omega
  have e2 : ((sub - 1 : Nat) : Int) - 1 = (sub : Int) - ((1 + 1 : Nat) : Int) := by omega
  have e3 : ((sub - 1 : Nat) : Int) - 2 = (sub : Int) - ((2 + 1 : Nat) : Int) := by omega
  have e4 : ((sub - 1 : Nat) : Int) - 3 = (sub : Int) - ((3 + 1 : Nat) : Int) := by omega
  rw [e2, e3, e4, e1]
  omega
structure BfRel (w : World) (L : Nat) (cs : List Nat) (sub B : Nat) (i n : Value) (wr : World) : Prop where
  ex : ∃ k : Nat, k ≤ 4 ∧ i = .int .i64 ((k : Int) + 1) ∧ n = .int .u32 (bsum L cs sub k : Nat)
  row : Row wr B 44 (rcs L cs)
  bel : Below w.heap.size w wr
end Go.Proofs.YtffdmfclakgocaaDoor.Rg

/-
  The contract of the document's Put over this seat's translation.
-/
namespace Go.Proofs.YtffdmfclakgocaaDoor.Rg
open Go.ChangeShapes Go.WideShapes Go.ChangeAt Go.RowKit Go.Proofs.YtffdmfclakgocaaDoor.Mem Go.Proofs.YtffdmfclakgocaaDoor.Bt
set_option linter.unusedVariables false
set_option linter.unusedSimpArgs false

theorem run_op_indexA {P : Program} {o : Oper} {a : Act} (t : TypeId) (x ix : Operand) (ho : o.op = .indexAddr t x ix) (n : Nat) (e : TypeId) (hu : P.underlying t = some (.array n e)) (hse : (P.info? e).map (·.size) = some 1)
    (g off : Nat) (hx : a.eval x = .pointer (some ⟨g, off, none⟩)) (kk : IntKind) (k : Nat) (hi : a.eval ix = .int kk (k : Int)) (hk : k < n) (w : World) : (execOp a.eval o).run P w = .ok (.value (.pointer (some ⟨g, off + k, none⟩))) w := by
  cases hq : P.info? e with
  | none => simp [hq] at hse
  | some ie =>
    have hs : ie.size = 1 := by simpa [hq] using hse
    have h3 : (⟨g, off, none⟩ : Addr).add k = ⟨g, off + k, none⟩ := Addr.add_mid g off k
    unfold execOp
    simp [ho, hx, hi, Instr.indexAt, asIntOf, run_underlying hu, sizeOf, typeInfo, hq, hs, hk, h3, Instr.sureAddr]
/-- The counts, the first k filled. -/
def fl (k : Nat) (ds : List Nat) : List Nat := ds.take k ++ List.replicate (4 - k) 0
theorem fl_len {k : Nat} {ds : List Nat} (h : ds.length = 4) (hk : k ≤ 4) : (fl k ds).length = 4 := by unfold fl; simp [h]; omega
theorem fl_step {k : Nat} {ds : List Nat} (h : ds.length = 4) (hk : k < 4) : (fl k ds).set k (ds.getD k 0) = fl (k + 1) ds := by
  obtain ⟨a, b, c, d, rfl⟩ := four h
  obtain rfl | rfl | rfl | rfl : k = 0 ∨ k = 1 ∨ k = 2 ∨ k = 3 := by omega
  all_goals rfl
theorem fl_all {ds : List Nat} (h : ds.length = 4) : fl 4 ds = ds := by
  obtain ⟨a, b, c, d, rfl⟩ := four h
  rfl
structure PtRel (w : World) (L sub : Nat) (cs : List Nat) (B R N : Nat) (i : Value) (wr : World) : Prop where
  ex : ∃ k : Nat, k ≤ 4 ∧ i = .int .i64 k ∧ Row wr N 44 (rcs sub (fl k (mvd L cs sub)))
  rb : Row wr B 44 (rcs L cs)
  rr : Row wr R 44 (rcs 0 [0, 0, 0, 0])
  bel : Below w.heap.size w wr
/-- The places are apart. -/
structure Apart (w : World) (B R N : Nat) : Prop where
  b : w.heap.size ≤ B
  r : w.heap.size ≤ R
  n : w.heap.size ≤ N
  br : B ≠ R
  bn : B ≠ N
  rn : R ≠ N
end Go.Proofs.YtffdmfclakgocaaDoor.Rg

/-
  Operations of whatever guard, once they are wanted; a struct written out, run; the contract of layer 6's awake over this seat's translation.
-/
namespace Go.Proofs.YtffdmfclakgocaaDoor.Rg
open Go.ChangeShapes Go.WideShapes Go.ChangeAt Go.RowKit Go.Proofs.YtffdmfclakgocaaDoor.Mem Go.Proofs.YtffdmfclakgocaaDoor.Bt
set_option linter.unusedVariables false
set_option linter.unusedSimpArgs false

theorem small_of (cs : List Nat) (h : (cs.all fun x => decide (x ≤ 3)) = true) : Small cs := fun i hi => by
  by_cases hl : i < cs.length
  · rw [List.getD_eq_getElem?_getD, List.getElem?_eq_getElem hl]
    exact of_decide_eq_true (List.all_eq_true.1 h _ (List.getElem_mem hl))
  · rw [List.getD_eq_getElem?_getD, List.getElem?_eq_none (by omega)]; exact Nat.zero_le _
end Go.Proofs.YtffdmfclakgocaaDoor.Rg

/-
  RingTells, walked: whether any ring may be, how many blocks it has, and any window ahead, and the ring with one block more are as the document says. Over this seat's translation.
-/
namespace Go.Proofs.YtffdmfclakgocaaDoor.Rg
open Go.ChangeShapes Go.WideShapes Go.ChangeAt Go.RowKit Go.Proofs.YtffdmfclakgocaaDoor.Mem Go.Proofs.YtffdmfclakgocaaDoor.Bt
set_option linter.unusedVariables false
set_option linter.unusedSimpArgs false

/-- What Put answers. -/
def putL (L : Nat) (cs : List Nat) (sub : Nat) : Nat := if L ≤ sub ∧ atG L cs sub < 3 then sub else 0
def putC (L : Nat) (cs : List Nat) (sub : Nat) : List Nat := if L ≤ sub ∧ atG L cs sub < 3 then putd L cs sub else [0, 0, 0, 0]
def putE (L : Nat) (cs : List Nat) (sub : Nat) : Int := if sub < L then 6 else if atG L cs sub < 3 then 0 else 11
theorem putC_len (L : Nat) (cs : List Nat) (sub : Nat) : (putC L cs sub).length = 4 := by unfold putC; split; exact putd_len _ _ _; rfl
end Go.Proofs.YtffdmfclakgocaaDoor.Rg

/-
  RingFades, walked: the further off a sub-window, the fewer blocks are ahead of it. Over this seat's translation.
-/
namespace Go.Proofs.YtffdmfclakgocaaDoor.Rg
open Go.ChangeShapes Go.WideShapes Go.ChangeAt Go.RowKit Go.Proofs.YtffdmfclakgocaaDoor.Mem Go.Proofs.YtffdmfclakgocaaDoor.Bt
set_option linter.unusedVariables false
set_option linter.unusedSimpArgs false

theorem befN_at {L m : Nat} {cs : List Nat} (h : L < m) : befN L cs m = atG L cs ((m : Int) - 1) + atG L cs ((m : Int) - 2) + atG L cs ((m : Int) - 3) + atG L cs ((m : Int) - 4) := by
  unfold befN
  rw [if_neg (by omega), sumc_mvd]
  have e1 : ((m - 1 : Nat) : Int) = (m : Int) - 1 := by omega
  rw [e1, show (m : Int) - 1 - 1 = (m : Int) - 2 by omega, show (m : Int) - 1 - 2 = (m : Int) - 3 by omega, show (m : Int) - 1 - 3 = (m : Int) - 4 by omega]
theorem befN_next {L : Nat} {cs : List Nat} (hl : cs.length = 4) : befN L cs (L + 1) = sumc cs := by
  unfold befN
  rw [if_neg (by omega), Nat.add_sub_cancel, mvd_self hl]
theorem befN_less {L m : Nat} {cs : List Nat} (h : L < m) : befN L cs (m + 1) ≤ befN L cs m := by
  rw [befN_at h, befN_at (by omega), atG_out (g := ((m + 1 : Nat) : Int) - 1) (by omega)]
  rw [show ((m + 1 : Nat) : Int) - 2 = (m : Int) - 1 by omega, show ((m + 1 : Nat) : Int) - 3 = (m : Int) - 2 by omega, show ((m + 1 : Nat) : Int) - 4 = (m : Int) - 3 by omega]
  omega
theorem befN_none {L m : Nat} {cs : List Nat} (h : L + 4 < m) : befN L cs m = 0 := by
  rw [befN_at (by omega), atG_out (by omega), atG_out (by omega), atG_out (by omega), atG_out (by omega)]
theorem befN_le {L m : Nat} {cs : List Nat} (hs : Small cs) : befN L cs m ≤ 12 := by
  unfold befN
  split
  · omega
  · exact sumc_small (mvd_small hs)
theorem befE_ok {L m : Nat} (h : L < m) : befE L m = 0 := if_neg (by omega)
structure FdRel (w : World) (L : Nat) (cs : List Nat) (B : Nat) (i n : Value) (wr : World) : Prop where
  ex : ∃ k : Nat, 2 ≤ k ∧ k ≤ 9 ∧ i = .int .u32 (k : Int) ∧ n = .int .u32 (befN L cs (L + k - 1) : Nat)
  row : Row wr B 27 (rcs L cs)
  bel : Below w.heap.size w wr
end Go.Proofs.YtffdmfclakgocaaDoor.Rg

/-
  '!=' between integers and the load of one number, run; the document's Later and Sub over Nat; a slot's sub-window (package slot). Over this seat's translation.
-/
namespace Go.Proofs.YtffdmfclakgocaaDoor.Rg
open Go.ChangeShapes Go.WideShapes Go.ChangeAt Go.RowKit Go.Proofs.YtffdmfclakgocaaDoor.Mem Go.Proofs.YtffdmfclakgocaaDoor.Bt
set_option linter.unusedVariables false
set_option linter.unusedSimpArgs false

theorem run_op_load32 {o : Oper} {a : Act} (x : Operand) (ho : o.op = .load 24 x) (p : Addr) (hx : a.eval x = .pointer (some p)) (v : Value) {w : World} (hc : w.cell? p = some v) : (execOp a.eval o).run Tryd.prog w = .ok (.value v) w :=
  run_op_load1 24 x ho (.int .u32) (by kernel_rfl) rfl p hx v hc
end Go.Proofs.YtffdmfclakgocaaDoor.Rg
