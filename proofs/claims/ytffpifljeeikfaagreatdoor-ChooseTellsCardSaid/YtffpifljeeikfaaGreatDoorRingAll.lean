import Derived.Test.YtffpifljeeikfaaGreatDoorBytAll
import Derived.Test.YtffpifljeeikfaaGreatDoorMemAll
import Derived.Lib.SliceRun
import Derived.Laws.StructEq
import Derived.Test.YtffpifljeeikfaaGreatDoorNumAll
/-
  Rings as cells: a number and four counts; smaller and larger of two numbers; 'clear' of a slice; '==' between rings; a sub-window's ring place (package slot). Over this seat's translation.
-/
namespace Go.Proofs.YtffpifljeeikfaaGreatDoor.Rg
open Go.ChangeShapes Go.WideShapes Go.ChangeAt Go.RowKit Go.Proofs.YtffpifljeeikfaaGreatDoor.Mem Go.Proofs.YtffpifljeeikfaaGreatDoor.Bt
set_option linter.unusedVariables false
set_option maxRecDepth 100000

/-- A ring's cells. -/
def rcs (L : Nat) (cs : List Nat) : List Value := .int .u32 (L : Int) :: u32s cs
theorem rcs_len {L : Nat} {cs : List Nat} (h : cs.length = 4) : (rcs L cs).length = 5 := by unfold rcs; rw [List.length_cons, u32s_length, h]
theorem rcs_one (L : Nat) (cs : List Nat) : OneCells (rcs L cs) := by
  intro v hv
  unfold rcs at hv
  rcases List.mem_cons.1 hv with rfl | hv
  · rfl
  · exact u32s_one _ v hv
theorem rcs_get0 (L : Nat) (cs : List Nat) : (rcs L cs)[0]? = some (.int .u32 (L : Int)) := rfl
theorem rcs_get {L : Nat} {cs : List Nat} {i : Nat} (h : i < cs.length) : (rcs L cs)[1 + i]? = some (.int .u32 ((cs.getD i 0 : Nat) : Int)) := by
  unfold rcs
  rw [Nat.add_comm, List.getElem?_cons_succ]
  exact u32s_get h
theorem rcs_set0 (L n : Nat) (cs : List Nat) : (rcs L cs).set 0 (.int .u32 (n : Int)) = rcs n cs := rfl
theorem rcs_set (L i n : Nat) (cs : List Nat) : (rcs L cs).set (1 + i) (.int .u32 (n : Int)) = rcs L (cs.set i n) := by
  unfold rcs
  rw [Nat.add_comm, List.set_cons_succ]
  unfold u32s
  rw [List.map_set]
theorem rcs_inj {L M : Nat} {cs ds : List Nat} (h : rcs L cs = rcs M ds) : L = M ∧ cs = ds := by
  unfold rcs u32s at h
  obtain ⟨h1, h2⟩ := List.cons.inj h
  refine ⟨by injection h1 with _ h; omega, ?_⟩
  have := congrArg (List.map (fun v : Value => match v with | .int _ n => n.toNat | _ => 0)) h2
  simpa [List.map_map, Function.comp_def] using this
theorem four {cs : List Nat} (h : cs.length = 4) : ∃ a b c d, cs = [a, b, c, d] := by
  match cs, h with
  | [a, b, c, d], _ => exact ⟨a, b, c, d, rfl⟩
theorem z_ring : Mem.Zero Tryz.prog 27 (rcs 0 [0, 0, 0, 0]) := by unfold Mem.Zero; kernel_rfl
theorem sz_ring : Sized Tryz.prog 27 5 := ⟨.struct (Tryz.prog.fieldsOf 27), by kernel_rfl, rfl, by kernel_rfl⟩
theorem sz_ring' {L : Nat} {cs : List Nat} (h : cs.length = 4) : Sized Tryz.prog 27 (rcs L cs).length := by rw [rcs_len h]; exact sz_ring
theorem sz_arr : Sized Tryz.prog 25 4 := ⟨.array 4 24, by kernel_rfl, rfl, by kernel_rfl⟩
theorem sz_arr' {cs : List Nat} (h : cs.length = 4) : Sized Tryz.prog 25 (u32s cs).length := by rw [u32s_length, h]; exact sz_arr
theorem z_rref : Mem.Zero Tryz.prog 42 (rcs 0 [0, 0, 0, 0]) := by unfold Mem.Zero; kernel_rfl
theorem sz_rref : Sized Tryz.prog 42 5 := ⟨.struct (Tryz.prog.fieldsOf 42), by kernel_rfl, rfl, by kernel_rfl⟩
theorem sz_rref' {L : Nat} {cs : List Nat} (h : cs.length = 4) : Sized Tryz.prog 42 (rcs L cs).length := by rw [rcs_len h]; exact sz_rref
theorem row_all {w : World} {b : Nat} {t : TypeId} {cs : List Value} (h : Row w b t cs) : w.rangeAt b 0 cs := h.range 0 _ (fun j v hj => by rw [Nat.zero_add]; exact hj)
theorem row_counts {w : World} {b : Nat} {t : TypeId} {L : Nat} {cs : List Nat} (h : Row w b t (rcs L cs)) : w.rangeAt b 1 (u32s cs) := h.range 1 _ (fun j v hj => by unfold rcs; rw [Nat.add_comm, List.getElem?_cons_succ]; exact hj)
theorem only_size {w w' : World} {b : Nat} (h : Only b w w') : w.heap.size ≤ w'.heap.size := h.size

section
variable {P : Program} {ops : Array Oper} {rest : List Oper} {o : Oper} {a : Act} {w : World} {Q : Exit → Act → World → Prop}
/-- The smaller of two numbers. -/
theorem arm_min (hgd : o.guard = none) (x y : Operand) (ats : Array TypeId) (ho : o.op = .call { callee := .builtin .min, args := #[x, y], argTypes := ats }) (k : IntKind) (m n : Int) (hx : a.eval x = .int k m) (hy : a.eval y = .int k n)
    (r : Nat) (hr : (if n < m then n else m) = (r : Int)) (h : wpList P ops Q rest (a.put o.dst (.int k (r : Int))) w) : wpList P ops Q (o :: rest) a w := by
  obtain ⟨dst, op, ty, pos, after, guard⟩ := o
  simp only at hgd ho
  subst hgd ho
  refine wpList_plain rfl fun K hK => ?_
  unfold Oper.wp
  have he : (execOp a.eval { dst := dst, op := Op.call { callee := .builtin .min, args := #[x, y], argTypes := ats }, type := ty, pos := pos, after := after, guard := none }).run P w = .ok (.value (.int k (r : Int))) w := by
    rw [BigFrame.execOp_builtin, BigFrame.builtin_min]
    simp only [List.map_toArray, List.map_cons, List.map_nil, hx, hy, Sem.run_bind, Builtin.min_, List.foldlM_cons, List.foldlM_nil, Builtin.min2, hr, Result.andThen_ok, Sem.run_pure]
  rw [he]
  exact hK _ _ h
/-- The larger of two numbers. -/
theorem arm_max (hgd : o.guard = none) (x y : Operand) (ats : Array TypeId) (ho : o.op = .call { callee := .builtin .max, args := #[x, y], argTypes := ats }) (k : IntKind) (m n : Int) (hx : a.eval x = .int k m) (hy : a.eval y = .int k n)
    (r : Nat) (hr : (if m < n then n else m) = (r : Int)) (h : wpList P ops Q rest (a.put o.dst (.int k (r : Int))) w) : wpList P ops Q (o :: rest) a w := by
  obtain ⟨dst, op, ty, pos, after, guard⟩ := o
  simp only at hgd ho
  subst hgd ho
  refine wpList_plain rfl fun K hK => ?_
  unfold Oper.wp
  have he : (execOp a.eval { dst := dst, op := Op.call { callee := .builtin .max, args := #[x, y], argTypes := ats }, type := ty, pos := pos, after := after, guard := none }).run P w = .ok (.value (.int k (r : Int))) w := by
    rw [BigFrame.execOp_builtin, BigFrame.builtin_max]
    simp only [List.map_toArray, List.map_cons, List.map_nil, hx, hy, Sem.run_bind, Builtin.max_, List.foldlM_cons, List.foldlM_nil, Builtin.max2, hr, Result.andThen_ok, Sem.run_pure]
  rw [he]
  exact hK _ _ h
/-- 'clear(s)' of numbers of a row. -/
theorem arm_clear (hgd : o.guard = none) (x : Operand) (t : TypeId) (ho : o.op = .call { callee := .builtin .clear, args := #[x], argTypes := #[t] }) (e : TypeId) (hu : P.underlying t = some (.slice e)) (z : Value) (hz : ∀ w, (zeroValue e).run P w = .ok z w) (hzc : z.cells = #[z]) (hz1 : z.oneCell' = true)
    (b off n c : Nat) (hx : a.eval x = .slice (some ⟨b, off, none⟩) (n + 1) c) (u : TypeId) (cs : List Value) (hr : Row w b u cs) (hf : off + (n + 1) ≤ cs.length)
    (h : ∀ w2, Row w2 b u (lay cs off (List.replicate (n + 1) z)) → Only b w w2 → Hid (w2.heap.size = w.heap.size) → wpList P ops Q rest (a.put o.dst (.tuple #[])) w2) : wpList P ops Q (o :: rest) a w := by
  obtain ⟨dst, op, ty, pos, after, guard⟩ := o
  simp only at hgd ho
  subst hgd ho
  refine wpList_plain rfl fun K hK => ?_
  have hzl : (Builtin.zeroCells z.cells (n + 1)).toList = List.replicate (n + 1) z := by
    rw [hzc]
    simp [Builtin.zeroCells]
    apply List.ext_getElem
    · simp
    · intro i h1 h2
      simp [Nat.mod_one]
  have hst := run_storeCells_at P b off u (List.replicate (n + 1) z) 0 cs.toArray w hr (by simpa using hf) (by intro v hv; rw [List.eq_of_mem_replicate hv]; exact hz1)
  simp only [Nat.add_zero] at hst
  unfold Oper.wp
  have he : (execOp a.eval { dst := dst, op := Op.call { callee := .builtin .clear, args := #[x], argTypes := #[t] }, type := ty, pos := pos, after := after, guard := none }).run P w = .ok (.value (.tuple #[])) (w.setRow b (lay cs off (List.replicate (n + 1) z)).toArray) := by
    rw [BigFrame.execOp_builtin, BigFrame.builtin_clear]
    simp only [List.map_toArray, List.map_cons, List.map_nil, hx, Sem.run_bind, Sem.run_pure]
    simp [Builtin.clear_, run_underlying hu, hz, hzl, hst, lay, Result.andThen]
  rw [he]
  exact hK _ _ (h _ (row_setRow hr _) (Only.setRow _ _ _) (by simp [Hid]))
end

/-! ### '==' between rings. -/
theorem part_u32s (xs : List Nat) (i : Nat) (hi : i < xs.length) (w : World) : (part 24 (u32s xs).toArray i).run Tryz.prog w = .ok (.int .u32 ((xs.getD i 0 : Nat) : Int)) w := by
  have hu : Tryz.prog.underlying 24 = some (.int .u32) := by kernel_rfl
  have hg := u32s_get hi
  simp [part, isAgg, run_underlying hu, hg]
theorem eq_num (d m n : Nat) (w : World) : (Op.equalIn (d + 1) 24 (.int .u32 (m : Int)) (.int .u32 (n : Int))).run Tryz.prog w = .ok (decide (m = n)) w := by
  have hu : Tryz.prog.underlying 24 = some (.int .u32) := by kernel_rfl
  rw [run_equalIn_int w d 24 .u32 .u32 m n hu]
  congr 1
  by_cases h : m = n
  · simp [h]
  · have : ((m : Int) == (n : Int)) = false := beq_eq_false_iff_ne.2 (by omega)
    rw [this]; simp [h]
theorem getD_ext {xs ys : List Nat} (h : xs.length = ys.length) (hg : ∀ i, i < xs.length → xs.getD i 0 = ys.getD i 0) : xs = ys := by
  apply List.ext_getElem h
  intro i h1 h2
  have := hg i h1
  rwa [List.getD_eq_getElem?_getD, List.getD_eq_getElem?_getD, List.getElem?_eq_getElem h1, List.getElem?_eq_getElem h2] at this
theorem eq_arr (d : Nat) (xs ys : List Nat) (hx : xs.length = 4) (hy : ys.length = 4) (w : World) :
    (Op.equalIn (d + 2) 25 (.agg (u32s xs).toArray) (.agg (u32s ys).toArray)).run Tryz.prog w = .ok (decide (xs = ys)) w := by
  have hu : Tryz.prog.underlying 25 = some (.array 4 24) := by kernel_rfl
  have hs : (sizeOf 24).run Tryz.prog w = .ok 1 w := by kernel_rfl
  unfold Op.equalIn
  simp only [Sem.run_bind, run_underlying hu, Result.andThen_ok, hs]
  have key : ∀ l : List Nat, (∀ i ∈ l, i < 4) → (forIn (m := Sem) l ((none : Option Bool), ()) fun i __s => do
      let a ← part 24 (u32s xs).toArray (i * 1)
      let b ← part 24 (u32s ys).toArray (i * 1)
      let r ← Op.equalIn (d + 1) 24 a b
      if (!r) = true then pure (ForInStep.done (some false, ())) else pure (ForInStep.yield (none, ()))).run Tryz.prog w = .ok (if ∀ i ∈ l, xs.getD i 0 = ys.getD i 0 then (none, ()) else (some false, ())) w := by
    intro l
    induction l with
    | nil => intro _; simp
    | cons i l ih =>
      intro h
      have hi := h i (by simp)
      rw [List.forIn_cons]
      simp only [Sem.run_bind, Nat.mul_one, part_u32s xs i (by omega) w, part_u32s ys i (by omega) w, Result.andThen_ok, eq_num]
      by_cases he : xs.getD i 0 = ys.getD i 0
      · simp only [he, decide_true, Bool.not_true, Bool.false_eq_true, if_false, Sem.run_pure, Result.andThen_ok]
        have := ih (fun j hj => h j (by simp [hj]))
        simp only [Nat.mul_one] at this
        rw [this]
        simp only [List.mem_cons, forall_eq_or_imp, he, true_and]
      · simp only [he, decide_false, Bool.not_false, if_true, Sem.run_pure, Result.andThen_ok]
        rw [if_neg (fun hc => he (hc i (by simp)))]
  rw [Std.Legacy.Range.forIn_eq_forIn_range']
  rw [key _ (fun i hi => by simp [Std.Legacy.Range.size] at hi; omega)]
  by_cases he : xs = ys
  · subst he; simp
  · have hne : ¬ ∀ i ∈ List.range' 0 (Std.Legacy.Range.size ⟨0, 4, 1, by decide⟩) 1, xs.getD i 0 = ys.getD i 0 := fun hc => he (getD_ext (by omega) (fun i hi => hc i (by simp [Std.Legacy.Range.size]; omega)))
    rw [if_neg hne]
    simp [he]
theorem part_num (L : Nat) (cs : List Nat) (w : World) : (part 24 (rcs L cs).toArray 0).run Tryz.prog w = .ok (.int .u32 (L : Int)) w := by
  have hu : Tryz.prog.underlying 24 = some (.int .u32) := by kernel_rfl
  simp [part, isAgg, run_underlying hu, rcs]
theorem part_arr (L : Nat) (cs : List Nat) (h : cs.length = 4) (w : World) : (part 25 (rcs L cs).toArray 1).run Tryz.prog w = .ok (.agg (u32s cs).toArray) w := by
  have hu : Tryz.prog.underlying 25 = some (.array 4 24) := by kernel_rfl
  have hs : (sizeOf 25).run Tryz.prog w = .ok 4 w := by kernel_rfl
  obtain ⟨a, b, c, d, rfl⟩ := four h
  simp [part, isAgg, run_underlying hu, rcs, u32s]
/-- The two fields of a ring. -/
structure Fields (fs : List Field) : Prop where
  ex : ∃ f g : Field, fs = [f, g] ∧ f.name ≠ "_" ∧ f.type = 24 ∧ f.offset = 0 ∧ g.name ≠ "_" ∧ g.type = 25 ∧ g.offset = 1
theorem fields_of {fs : List Field} (h : fs.map (fun f => (f.name, f.type, f.offset)) = [("Last", 24, 0), ("Counts", 25, 1)]) : Fields fs := by
  have hl : fs.length = 2 := by have := congrArg List.length h; simpa using this
  match fs, hl with
  | [f, g], _ =>
    simp only [List.map_cons, List.map_nil, List.cons.injEq, Prod.mk.injEq, and_true] at h
    obtain ⟨⟨h1, h2, h3⟩, h4, h5, h6⟩ := h
    exact ⟨f, g, rfl, by rw [h1]; decide, h2, h3, by rw [h4]; decide, h5, h6⟩
theorem fields_ring : Fields (Tryz.prog.fieldsOf 27).toList := fields_of (by kernel_rfl)
theorem fields_rref : Fields (Tryz.prog.fieldsOf 42).toList := fields_of (by kernel_rfl)
theorem eq_ringF (t : TypeId) (hU : Tryz.prog.underlying t = some (.struct (Tryz.prog.fieldsOf t))) (hp : Tryz.prog.stoodInHeld t = false) (hF : Fields (Tryz.prog.fieldsOf t).toList) (d L M : Nat) (xs ys : List Nat) (hx : xs.length = 4) (hy : ys.length = 4) (w : World) :
    (Op.equalIn (d + 3) t (.agg (rcs L xs).toArray) (.agg (rcs M ys).toArray)).run Tryz.prog w = .ok (decide (L = M ∧ xs = ys)) w := by
  rw [run_equalIn_struct w (d + 2) t _ _ hU hp]
  obtain ⟨f, g, hfs, n1, t1, o1, n2, t2, o2⟩ := hF.ex
  rw [hfs]
  simp only [Op.eqFields, n1, n2, ne_eq, not_false_eq_true, if_true, t1, t2, o1, o2, Sem.run_bind, part_num, Result.andThen_ok, eq_num]
  by_cases h1 : L = M
  · by_cases h2 : xs = ys
    · simp [h1, h2, part_arr _ _ hy, eq_arr d ys ys hy hy]
    · simp [h1, h2, part_arr _ _ hx, part_arr _ _ hy, eq_arr d xs ys hx hy]
  · simp [h1]
theorem eq_ring (d L M : Nat) (xs ys : List Nat) (hx : xs.length = 4) (hy : ys.length = 4) (w : World) :
    (Op.equalIn (d + 3) 27 (.agg (rcs L xs).toArray) (.agg (rcs M ys).toArray)).run Tryz.prog w = .ok (decide (L = M ∧ xs = ys)) w :=
  eq_ringF _ (by kernel_rfl) (by kernel_rfl) fields_ring d L M xs ys hx hy w
theorem eq_rref (d L M : Nat) (xs ys : List Nat) (hx : xs.length = 4) (hy : ys.length = 4) (w : World) :
    (Op.equalIn (d + 3) 42 (.agg (rcs L xs).toArray) (.agg (rcs M ys).toArray)).run Tryz.prog w = .ok (decide (L = M ∧ xs = ys)) w :=
  eq_ringF _ (by kernel_rfl) (by kernel_rfl) fields_rref d L M xs ys hx hy w
section
variable {o : Oper} {a : Act}
theorem run_op_eqlR (x y : Operand) (t' : TypeId) (ho : o.op = .binOp .eql 27 x y t') (L M : Nat) (xs ys : List Nat) (hlx : xs.length = 4) (hly : ys.length = 4) (hx : a.eval x = .agg (rcs L xs).toArray) (hy : a.eval y = .agg (rcs M ys).toArray) (w : World) :
    (execOp a.eval o).run Tryz.prog w = .ok (.value (.bool (decide (L = M ∧ xs = ys)))) w := by
  unfold execOp
  simp only [ho, hx, hy, Sem.run_bind, run_eqGuard_agg w _ _ _ _ _ _ (show Tryz.prog.eqGuardType Tryz.prog.depth 27 = false by kernel_rfl), Result.andThen_ok, binOp, Op.equal, Op.maxDepth, eq_ring 9997 L M xs ys hlx hly w, Sem.run_pure]
theorem run_op_neqR (x y : Operand) (t' : TypeId) (ho : o.op = .binOp .neq 27 x y t') (L M : Nat) (xs ys : List Nat) (hlx : xs.length = 4) (hly : ys.length = 4) (hx : a.eval x = .agg (rcs L xs).toArray) (hy : a.eval y = .agg (rcs M ys).toArray) (w : World) :
    (execOp a.eval o).run Tryz.prog w = .ok (.value (.bool (!decide (L = M ∧ xs = ys)))) w := by
  unfold execOp
  simp only [ho, hx, hy, Sem.run_bind, run_eqGuard_agg w _ _ _ _ _ _ (show Tryz.prog.eqGuardType Tryz.prog.depth 27 = false by kernel_rfl), Result.andThen_ok, binOp, Op.equal, Op.maxDepth, eq_ring 9997 L M xs ys hlx hly w, Sem.run_pure]
theorem run_op_eqlRR (x y : Operand) (t' : TypeId) (ho : o.op = .binOp .eql 42 x y t') (L M : Nat) (xs ys : List Nat) (hlx : xs.length = 4) (hly : ys.length = 4) (hx : a.eval x = .agg (rcs L xs).toArray) (hy : a.eval y = .agg (rcs M ys).toArray) (w : World) :
    (execOp a.eval o).run Tryz.prog w = .ok (.value (.bool (decide (L = M ∧ xs = ys)))) w := by
  unfold execOp
  simp only [ho, hx, hy, Sem.run_bind, run_eqGuard_agg w _ _ _ _ _ _ (show Tryz.prog.eqGuardType Tryz.prog.depth 42 = false by kernel_rfl), Result.andThen_ok, binOp, Op.equal, Op.maxDepth, eq_rref 9997 L M xs ys hlx hly w, Sem.run_pure]
end

/-! ### A sub-window's ring place. -/
theorem partedB_any (n b : Nat) (w : World) (h1 : n < 4294967296) (b0 : 1 ≤ b) (b1 : b < 4294967296) :
    Calls Tryz.prog 57 #[.int .u32 (n : Int), .int .u32 (b : Int)] w fun e w' => e = .returned (.tuple #[.int .u32 ((n : Int) / (b : Int)), .int .u32 ((n : Int) % (b : Int))]) ∧ Below w.heap.size w w' := by
  have hz : ((b : Int) != 0) = true := bne_iff_ne.2 (by omega)
  have hz2 : ((b : Int) == 0) = false := beq_eq_false_iff_ne.2 (by omega)
  have hd0 : 0 ≤ (n : Int) / (b : Int) := Int.ediv_nonneg (by omega) (by omega)
  have hd1 : (n : Int) / (b : Int) ≤ 4294967295 := Int.le_trans (Int.ediv_le_self (b : Int) (by omega)) (by omega)
  have hm0 : 0 ≤ (n : Int) % (b : Int) := Int.emod_nonneg (n : Int) (by omega)
  have hm1 : (n : Int) % (b : Int) ≤ 4294967295 := by have := Int.emod_lt_of_pos (n : Int) (by omega : 0 < (b : Int)); omega
  go_enter Tryz.func57, Tryz.ntmps57
  go_wp2_with fail
  go_quiet (fail)
  go_wp2
  go_ret2
  exact ⟨rfl, below_drewN _ _ _⟩
theorem ringB_any (n : Nat) (w : World) (h1 : n < 4294967296) :
    Calls Tryz.prog 93 #[.int .u32 (n : Int)] w fun e w' => e = .returned (.int .i64 ((n % 4 : Nat) : Int)) ∧ Below w.heap.size w w' := by
  have C := partedB_any n 4 w h1 (by omega) (by omega)
  go_enter Tryz.func93, Tryz.ntmps93
  go_wp2_with fail
  refine C.mono ?_
  rintro e w1 ⟨rfl, g1⟩
  go_wp2
  go_ret
  exact ⟨congrArg (fun n => Ending.returned (.int .i64 n)) (by omega), g1⟩
end Go.Proofs.YtffpifljeeikfaaGreatDoor.Rg

/-
  What a ring tells, over numbers and lists: how many blocks a sub-window has, the ring as of a later sub-window, with one block more; which rings are right.
-/
namespace Go.Proofs.YtffpifljeeikfaaGreatDoor.Rg
open Go.Proofs.YtffpifljeeikfaaGreatDoor.Mem Go.Proofs.YtffpifljeeikfaaGreatDoor.Bt
set_option linter.unusedVariables false

/-- How many blocks a ring tells of a sub-window. -/
def atG (L : Nat) (cs : List Nat) (g : Int) : Nat := if (L : Int) - 4 < g ∧ g ≤ (L : Int) then cs.getD (g % 4).toNat 0 else 0
/-- The latest sub-window of a ring place that isn't behind s. -/
def lat (s : Int) (p : Nat) : Int := s - (s - (p : Int)) % 4
theorem lat_mod (s : Int) {p : Nat} (h : p < 4) : (lat s p) % 4 = (p : Int) := by unfold lat; omega
theorem lat_le (s : Int) (p : Nat) : lat s p ≤ s := by unfold lat; omega
theorem lat_gt (s : Int) (p : Nat) : s - 4 < lat s p := by unfold lat; omega
theorem lat_of (s g : Int) (p : Nat) (h1 : s - 4 < g) (h2 : g ≤ s) (h3 : g % 4 = (p : Int)) : lat s p = g := by unfold lat; omega
/-- The counts as of a later sub-window, if no block comes up to there. -/
def mvd (L : Nat) (cs : List Nat) (s : Nat) : List Nat := [atG L cs (lat s 0), atG L cs (lat s 1), atG L cs (lat s 2), atG L cs (lat s 3)]
theorem mvd_len (L : Nat) (cs : List Nat) (s : Nat) : (mvd L cs s).length = 4 := rfl
theorem mvd_getD (L : Nat) (cs : List Nat) (s : Nat) {i : Nat} (h : i < 4) : (mvd L cs s).getD i 0 = atG L cs (lat s i) := by
  obtain rfl | rfl | rfl | rfl : i = 0 ∨ i = 1 ∨ i = 2 ∨ i = 3 := by omega
  all_goals rfl
theorem atG_in {L : Nat} {cs : List Nat} {g : Int} (h1 : (L : Int) - 4 < g) (h2 : g ≤ (L : Int)) : atG L cs g = cs.getD (g % 4).toNat 0 := if_pos ⟨h1, h2⟩
theorem atG_out {L : Nat} {cs : List Nat} {g : Int} (h : g ≤ (L : Int) - 4 ∨ (L : Int) < g) : atG L cs g = 0 := if_neg (by omega)
theorem atG_lat (L : Nat) (cs : List Nat) {i : Nat} (h : i < 4) : atG L cs (lat L i) = cs.getD i 0 := by
  rw [atG_in (lat_gt _ _) (lat_le _ _), lat_mod _ h]
  rfl
theorem set_getD (l : List Nat) (i j n : Nat) (h : i < l.length) : (l.set i n).getD j 0 = if i = j then n else l.getD j 0 := by
  rw [List.getD_eq_getElem?_getD, List.getElem?_set, List.getD_eq_getElem?_getD]
  by_cases e : i = j
  · subst e; simp [h]
  · simp [e]
theorem mvd_self {L : Nat} {cs : List Nat} (h : cs.length = 4) : mvd L cs L = cs :=
  getD_ext (by rw [mvd_len, h]) fun i hi => by rw [mvd_getD _ _ _ hi, atG_lat _ _ hi]
theorem mvd_step {L s : Nat} {cs : List Nat} (h : L ≤ s) : (mvd L cs s).set ((s + 1) % 4) 0 = mvd L cs (s + 1) := by
  refine getD_ext (by rw [List.length_set, mvd_len, mvd_len]) fun i hi => ?_
  rw [List.length_set, mvd_len] at hi
  rw [set_getD _ _ _ _ (by rw [mvd_len]; omega), mvd_getD _ _ _ hi]
  split
  · rename_i he
    rw [mvd_getD _ _ _ hi, lat_of ((s + 1 : Nat) : Int) ((s + 1 : Nat) : Int) i (by omega) (by omega) (by omega), atG_out (by omega)]
  · rename_i he
    rw [mvd_getD _ _ _ hi]
    congr 1
    unfold lat; omega
theorem mvd_far {L s : Nat} {cs : List Nat} (h : L + 4 ≤ s) : mvd L cs s = [0, 0, 0, 0] := by
  refine getD_ext rfl fun i hi => ?_
  rw [mvd_len] at hi
  rw [mvd_getD _ _ _ hi, atG_out (.inr (by have := lat_gt s i; omega))]
  obtain rfl | rfl | rfl | rfl : i = 0 ∨ i = 1 ∨ i = 2 ∨ i = 3 := by omega
  all_goals rfl
/-- What the ring as of a later sub-window tells is what the ring tells. -/
theorem atG_mvd {L s : Nat} {cs : List Nat} {g : Int} (h1 : (s : Int) - 4 < g) (h2 : g ≤ (s : Int)) : atG s (mvd L cs s) g = atG L cs g := by
  rw [atG_in h1 h2, mvd_getD _ _ _ (by omega), lat_of (s : Int) g _ h1 h2 (by omega)]
/-- The four counts together. -/
def sumc (cs : List Nat) : Nat := cs.getD 0 0 + cs.getD 1 0 + cs.getD 2 0 + cs.getD 3 0
theorem sumc_mvd (L s : Nat) (cs : List Nat) : sumc (mvd L cs s) = atG L cs s + atG L cs (s - 1) + atG L cs (s - 2) + atG L cs (s - 3) := by
  unfold sumc
  rw [mvd_getD _ _ _ (by omega), mvd_getD _ _ _ (by omega), mvd_getD _ _ _ (by omega), mvd_getD _ _ _ (by omega)]
  obtain h | h | h | h : s % 4 = 0 ∨ s % 4 = 1 ∨ s % 4 = 2 ∨ s % 4 = 3 := by omega
  · rw [lat_of (s : Int) s 0 (by omega) (by omega) (by omega), lat_of (s : Int) (s - 3) 1 (by omega) (by omega) (by omega), lat_of (s : Int) (s - 2) 2 (by omega) (by omega) (by omega), lat_of (s : Int) (s - 1) 3 (by omega) (by omega) (by omega)]; omega
  · rw [lat_of (s : Int) (s - 1) 0 (by omega) (by omega) (by omega), lat_of (s : Int) s 1 (by omega) (by omega) (by omega), lat_of (s : Int) (s - 3) 2 (by omega) (by omega) (by omega), lat_of (s : Int) (s - 2) 3 (by omega) (by omega) (by omega)]; omega
  · rw [lat_of (s : Int) (s - 2) 0 (by omega) (by omega) (by omega), lat_of (s : Int) (s - 1) 1 (by omega) (by omega) (by omega), lat_of (s : Int) s 2 (by omega) (by omega) (by omega), lat_of (s : Int) (s - 3) 3 (by omega) (by omega) (by omega)]; omega
  · rw [lat_of (s : Int) (s - 3) 0 (by omega) (by omega) (by omega), lat_of (s : Int) (s - 2) 1 (by omega) (by omega) (by omega), lat_of (s : Int) (s - 1) 2 (by omega) (by omega) (by omega), lat_of (s : Int) s 3 (by omega) (by omega) (by omega)]; omega
/-- No count is above three. -/
def Small (cs : List Nat) : Prop := ∀ i, i < 4 → cs.getD i 0 ≤ 3
/-- A ring that may be. -/
def Rt (L : Nat) (cs : List Nat) : Prop := Small cs ∧ 1 ≤ cs.getD (L % 4) 0
instance (cs : List Nat) : Decidable (Small cs) := by unfold Small; exact inferInstance
instance (L : Nat) (cs : List Nat) : Decidable (Rt L cs) := by unfold Rt; exact inferInstance
theorem atG_small {L : Nat} {cs : List Nat} (h : Small cs) (g : Int) : atG L cs g ≤ 3 := by
  unfold atG
  split
  · exact h _ (by omega)
  · omega
theorem mvd_small {L s : Nat} {cs : List Nat} (h : Small cs) : Small (mvd L cs s) := fun i hi => by rw [mvd_getD _ _ _ hi]; exact atG_small h _
theorem sumc_small {cs : List Nat} (h : Small cs) : sumc cs ≤ 12 := by
  have h0 := h 0 (by omega); have h1 := h 1 (by omega); have h2 := h 2 (by omega); have h3 := h 3 (by omega)
  unfold sumc; omega
theorem mvd_lt {n L s : Nat} {cs : List Nat} (h : AllLt n cs) (hn : 0 < n) : AllLt n (mvd L cs s) := by
  intro x hx
  unfold mvd at hx
  simp only [List.mem_cons, List.not_mem_nil, or_false] at hx
  rcases hx with rfl | rfl | rfl | rfl <;>
  · unfold atG
    split
    · exact getD_lt h hn _
    · exact hn
theorem small_lt {cs : List Nat} (h : Small cs) (hl : cs.length = 4) : AllLt 4 cs := by
  obtain ⟨a, b, c, d, rfl⟩ := four hl
  have h0 := h 0 (by omega); have h1 := h 1 (by omega); have h2 := h 2 (by omega); have h3 := h 3 (by omega)
  simp only [List.getD_cons_zero, List.getD_cons_succ] at h0 h1 h2 h3
  intro x hx
  simp only [List.mem_cons, List.not_mem_nil, or_false] at hx
  omega
/-- The counts with one block more in sub-window s. -/
def putd (L : Nat) (cs : List Nat) (s : Nat) : List Nat := (mvd L cs s).set (s % 4) (atG L cs s + 1)
theorem putd_len (L : Nat) (cs : List Nat) (s : Nat) : (putd L cs s).length = 4 := by unfold putd; rw [List.length_set]; rfl
theorem atG_putd {L s : Nat} {cs : List Nat} {g : Int} (h1 : (s : Int) - 4 < g) (h2 : g ≤ (s : Int)) : atG s (putd L cs s) g = atG L cs g + (if g = s then 1 else 0) := by
  unfold putd
  rw [atG_in h1 h2, set_getD _ _ _ _ (by rw [mvd_len]; omega)]
  by_cases e : g = s
  · subst e
    rw [if_pos (by omega), if_pos rfl]
  · rw [if_neg (by omega), if_neg e, mvd_getD _ _ _ (by omega), lat_of (s : Int) g _ h1 h2 (by omega), Nat.add_zero]
theorem putd_small {L s : Nat} {cs : List Nat} (h : Small cs) (hs : atG L cs s < 3) : Small (putd L cs s) := fun i hi => by
  unfold putd
  rw [set_getD _ _ _ _ (by rw [mvd_len]; omega)]
  split
  · omega
  · exact mvd_small h i hi
theorem putd_rt {L s : Nat} {cs : List Nat} (h : Small cs) (hs : atG L cs s < 3) : Rt s (putd L cs s) := ⟨putd_small h hs, by
  unfold putd
  rw [set_getD _ _ _ _ (by rw [mvd_len]; omega), if_pos rfl]; omega⟩
/-- The counts, none of the first k above three. -/
def mn (k : Nat) (cs : List Nat) : List Nat := (cs.take k).map (fun c => min c 3) ++ cs.drop k
theorem mn_len {k : Nat} {cs : List Nat} (h : cs.length = 4) (hk : k ≤ 4) : (mn k cs).length = 4 := by unfold mn; simp [h]; omega
theorem mn_zero (cs : List Nat) : mn 0 cs = cs := rfl
theorem mn_step {k : Nat} {cs : List Nat} (h : cs.length = 4) (hk : k < 4) : (mn k cs).set k (min (cs.getD k 0) 3) = mn (k + 1) cs := by
  obtain ⟨a, b, c, d, rfl⟩ := four h
  obtain rfl | rfl | rfl | rfl : k = 0 ∨ k = 1 ∨ k = 2 ∨ k = 3 := by omega
  all_goals simp [mn]
theorem mn_all {cs : List Nat} (h : cs.length = 4) {i : Nat} (hi : i < 4) : (mn 4 cs).getD i 0 = min (cs.getD i 0) 3 := by
  obtain ⟨a, b, c, d, rfl⟩ := four h
  obtain rfl | rfl | rfl | rfl : i = 0 ∨ i = 1 ∨ i = 2 ∨ i = 3 := by omega
  all_goals rfl
/-- The ring that is right and nearest. -/
def mend (L : Nat) (cs : List Nat) : List Nat := (mn 4 cs).set (L % 4) (max (min (cs.getD (L % 4) 0) 3) 1)
theorem mend_len {L : Nat} {cs : List Nat} (h : cs.length = 4) : (mend L cs).length = 4 := by unfold mend; rw [List.length_set, mn_len h (by omega)]
theorem mend_rt {L : Nat} {cs : List Nat} (h : cs.length = 4) : cs = mend L cs ↔ Rt L cs := by
  have key : ∀ i, i < 4 → (mend L cs).getD i 0 = if L % 4 = i then max (min (cs.getD (L % 4) 0) 3) 1 else min (cs.getD i 0) 3 := fun i hi => by
    unfold mend
    rw [set_getD _ _ _ _ (by rw [mn_len h (by omega)]; omega), mn_all h hi]
  constructor
  · intro e
    have e' : ∀ i, i < 4 → cs.getD i 0 = (mend L cs).getD i 0 := fun i _ => by rw [← e]
    refine ⟨fun i hi => ?_, ?_⟩
    · have := e' i hi
      rw [key i hi] at this
      split at this
      · omega
      · omega
    · have := e' (L % 4) (by omega)
      rw [key _ (by omega), if_pos rfl] at this
      omega
  · intro ⟨h1, h2⟩
    refine getD_ext (by rw [mend_len h, h]) fun i hi => ?_
    rw [h] at hi
    rw [key i hi]
    have := h1 i hi
    split
    · rename_i e; subst e; omega
    · omega
end Go.Proofs.YtffpifljeeikfaaGreatDoor.Rg

/-
  The contracts of package ring's functions over this seat's translation.
-/
namespace Go.Proofs.YtffpifljeeikfaaGreatDoor.Rg
open Go.ChangeShapes Go.WideShapes Go.ChangeAt Go.RowKit Go.Proofs.YtffpifljeeikfaaGreatDoor.Mem Go.Proofs.YtffpifljeeikfaaGreatDoor.Bt
set_option linter.unusedVariables false
set_option linter.unusedSimpArgs false

theorem z_len : (rcs 0 [0, 0, 0, 0]).length = 5 := rfl
theorem genesis_any (w : World) : Calls Tryz.prog 47 #[] w fun e w' => e = .returned (.agg (rcs 0 [1, 3, 3, 3]).toArray) ∧ Below w.heap.size w w' := by
  go_enter Tryz.func47, Tryz.ntmps47
  go_wp2_with (first
    | ((with_reducible refine at_slot 0 ?_); (refine arm_alloc (o := ⟨some 0, _, _, _, _, _⟩) rfl _ rfl (rcs 0 [0, 0, 0, 0]) z_ring ?_); intro R w1 hRe hR1 hN1)
    | ((with_reducible refine at_slot 1 ?_); (refine arm_build (o := ⟨some 1, _, _, _, _, _⟩) rfl _ _ rfl (u32s [1, 3, 3, 3]) (by kernel_rfl) ?_))
    | ((with_reducible refine at_slot 2 ?_); (refine arm_build (o := ⟨some 2, _, _, _, _, _⟩) rfl _ _ rfl (rcs 0 [1, 3, 3, 3]) (by kernel_rfl) ?_))
    | ((with_reducible refine arm_store (o := ⟨none, _, _, _, _, _⟩) rfl _ _ _ rfl R 0 rfl (rcs 0 [1, 3, 3, 3]) rfl _ _ hR1 (by rw [rcs_len rfl, rcs_len rfl]; omega) (rcs_one _ _) (sz_ring' rfl) ?_); intro w2 hR2 hO2 hS2))
  have eR := hRe.out
  refine bodyPost_ret (v := .agg (rcs 0 [1, 3, 3, 3]).toArray) (result_row (p := 0) (ty := 27) (u := 27) (by kernel_rfl) _ w2 R _ rfl (hR2.congr (lay_all _ _ (by rw [rcs_len rfl, rcs_len rfl]))) (sz_ring' rfl)) rfl ⟨rfl, below_only hN1.below hO2 (by omega) (by rw [hN1.size]; omega)⟩

/-! ### Right. -/
structure MnRel (w : World) (L : Nat) (cs : List Nat) (B R : Nat) (i : Value) (wr : World) : Prop where
  ex : ∃ k : Nat, k ≤ 4 ∧ i = .int .i64 k ∧ Row wr B 27 (rcs L (mn k cs))
  res : Row wr R 27 (rcs 0 [0, 0, 0, 0])
  bel : Below w.heap.size w wr
theorem num_le3 (x : Nat) : (if (3 : Int) < (x : Int) then (3 : Int) else (x : Int)) = ((min x 3 : Nat) : Int) := by split <;> omega
theorem num_ge1 (x : Nat) : (if (x : Int) < (1 : Int) then (1 : Int) else (x : Int)) = ((max x 1 : Nat) : Int) := by split <;> omega
theorem eq_mend (L : Nat) {cs : List Nat} (h : cs.length = 4) : decide (L = L ∧ cs = mend L cs) = decide (Rt L cs) := decide_eq_decide.2 (by rw [← mend_rt h]; exact ⟨fun h => h.2, fun h => ⟨rfl, h⟩⟩)
/-! ### moved. -/
def lastOf (w : World) (b : Nat) : Nat := match w.cell? ⟨b, 0, none⟩ with
  | some v => (intOf v).toNat
  | none => 0
theorem lastOf_row {w : World} {b L : Nat} {t : TypeId} {cs : List Nat} (h : Row w b t (rcs L cs)) : lastOf w b = L := by
  unfold lastOf
  rw [h.cell (rcs_get0 L cs)]
  simp [intOf]
structure MvRel (w : World) (L s : Nat) (cs : List Nat) (B R : Nat) (wr : World) : Prop where
  ex : ∃ m : Nat, L ≤ m ∧ m ≤ s ∧ Row wr B 27 (rcs m (mvd L cs m))
  res : Row wr R 27 (rcs 0 [0, 0, 0, 0])
  bel : Below w.heap.size w wr
theorem zero32 (w : World) : (zeroValue 24).run Tryz.prog w = .ok (.int .u32 0) w := by kernel_rfl
theorem lay_zero (L : Nat) {cs : List Nat} (h : cs.length = 4) : lay (rcs L cs) 1 (List.replicate (3 + 1) (.int .u32 0)) = rcs L [0, 0, 0, 0] := by
  obtain ⟨a, b, c, d, rfl⟩ := four h
  rfl
set_option maxHeartbeats 1000000 in
set_option maxRecDepth 100000 in
theorem moved_any (L s : Nat) (cs : List Nat) (w : World) (hL : L ≤ s) (hs : s < 4294967296) (hl : cs.length = 4) :
    Calls Tryz.prog 74 #[.agg (rcs L cs).toArray, .int .u32 (s : Int)] w fun e w' => e = .returned (.agg (rcs s (mvd L cs s)).toArray) ∧ Below w.heap.size w w' := by
  have HL := Lib.hid hl; clear hl
  have hw : ((s : Int) - (L : Int)) % 4294967296 = (s : Int) - (L : Int) := by omega
  by_cases hfar : L + 4 ≤ s
  · have hd : decide ((4 : Int) ≤ (s : Int) - (L : Int)) = true := decide_eq_true (by omega)
    go_enter Tryz.func74, Tryz.ntmps74
    go_wp2_with (first
      | ((with_reducible refine at_slot 2 ?_); (refine arm_box (o := ⟨some 2, _, _, _, _, _⟩) rfl _ _ rfl (rcs L cs) rfl ?_); intro B w1 hBe hR1 hN1)
      | ((with_reducible refine at_slot 4 ?_); (refine arm_alloc (o := ⟨some 4, _, _, _, _, _⟩) rfl _ rfl (rcs 0 [0, 0, 0, 0]) z_ring ?_); intro R w2 hRe hR2 hN2; have cB := (hR1.old hN2.below).cell (rcs_get0 L cs))
      | ((with_reducible refine at_slot 11 ?_); (refine arm_sliceAll (o := ⟨some 11, _, _, _, _, _⟩) rfl _ _ rfl 4 24 (by kernel_rfl) (by kernel_rfl) B 1 rfl (by omega) ?_))
      | ((with_reducible refine arm_clear (o := ⟨none, _, _, _, _, _⟩) rfl _ _ rfl 24 (by kernel_rfl) (.int .u32 0) zero32 rfl rfl B 1 3 4 rfl _ _ (hR1.old hN2.below) (by rw [rcs_len HL.out]; omega) ?_); intro w3 hR3 hO3 hS3)
      | ((with_reducible refine arm_store1 (o := ⟨none, _, _, _, _, _⟩) rfl _ _ _ rfl B 0 rfl .u32 (s : Int) rfl (by kernel_rfl) _ _ (hR3.congr (lay_zero L HL.out)) (by rw [rcs_len rfl]; omega) ?_); intro w4 hR4 hO4 hS4))
    have eB := hBe.out; have eR := hRe.out; have s1 := hN1.size; have s2 := hN2.size; have s3 := hS3.out; have s4 := hS4.out
    have nBR : B ≠ R := by omega
    have lB : w.heap.size ≤ B := by omega
    have lR : w.heap.size ≤ R := by omega
    have bel2 : Below w.heap.size w w2 := below_step hN1.below (by omega) hN2.below
    have h0 : MvRel w L s cs B R w4 := ⟨⟨s, hL, by omega, by rw [mvd_far hfar]; exact hR4.congr (rcs_set0 _ _ _)⟩, (hR2.only hO3 (Ne.symm nBR)).only hO4 (Ne.symm nBR), below_only (below_only bel2 hO3 lB (by omega)) hO4 lB (by omega)⟩
    have NBR := Lib.hid nBR
    clear eB eR s1 s2 s3 s4 hBe hRe hR1 hR2 hR3 hR4 hN1 hN2 hO3 hO4 hS3 hS4 nBR bel2 cB w1 w2 w3
    simp only [Act.put]
    go_loopw [] (fun wr => MvRel w L s cs B R wr) (fun wr => s - lastOf wr B)
    case atStart => exact h0
    case round =>
      clear h0
      obtain ⟨⟨m, hm1, hm2, hRB⟩, hRR, hbel⟩ := hrel
      have cB0 := hRB.cell (rcs_get0 m (mvd L cs m))
      by_cases hlt : m < s
      · have ilt : decide ((m : Int) < (s : Int)) = true := decide_eq_true (by omega)
        have hml := mvd_len L cs m
        have HST := Lib.hid (mvd_step (cs := cs) hm1)
        have HLO := Lib.hid (lastOf_row hRB)
        generalize mvd L cs m = ds at hRB cB0 hml HST
        have HML := Lib.hid hml; clear hml
        have hwm : ((m : Int) + 1) % 4294967296 = ((m + 1 : Nat) : Int) := by omega
        go_wp2_with (first
          | ((with_reducible refine arm_store1 (o := ⟨none, _, _, _, _, _⟩) rfl _ _ _ rfl B 0 rfl .u32 _ rfl (by kernel_rfl) _ _ hRB (by rw [rcs_len HML.out]; omega) ?_); intro w5 hR5 hO5 hS5; have hRB5 : Row w5 B 27 (rcs (m + 1) ds) := hR5.congr (by rw [← rcs_set0 m (m + 1) ds]; congr 2; try omega); clear cB0; have cB5 := hRB5.cell (rcs_get0 (m + 1) ds)))
        refine (ringB_any (m + 1) _ (by omega)).mono ?_
        rintro e w6 ⟨rfl, hN6⟩
        have hRB6 := hRB5.old hN6
        have hRR6 := (hRR.only hO5 (Ne.symm NBR.out)).old hN6
        have bel6 : Below w.heap.size w w6 := below_step (below_only hbel hO5 lB hbel.size) (Nat.le_trans hbel.size hO5.size) hN6
        clear hRB hRR hbel hR5 hO5 hS5 cB5 hN6 hRB5 w5
        have hj : (m + 1) % 4 < 4 := by omega
        generalize hjj : (m + 1) % 4 = j at hj HST ⊢
        clear hjj
        have ij : (j : Int) < 4 := by omega
        go_wp2_with (first
          | ((with_reducible refine arm_store1 (o := ⟨none, _, _, _, _, _⟩) rfl _ _ _ rfl B (1 + j) rfl .u32 0 rfl (by kernel_rfl) _ _ hRB6 (by rw [rcs_len HML.out]; omega) ?_); intro w7 hR7 hO7 hS7))
        have hRB7 : Row w7 B 27 (rcs (m + 1) (mvd L cs (m + 1))) := hR7.congr (by rw [← HST.out]; exact rcs_set (m + 1) j 0 ds)
        simp only [Act.put]
        go_roundw
        case rel => exact ⟨⟨m + 1, by omega, by omega, hRB7⟩, hRR6.only hO7 (Ne.symm NBR.out), below_only bel6 hO7 lB bel6.size⟩
        case measure => rw [lastOf_row hRB7, HLO.out]; omega
      · obtain rfl : m = s := by omega
        have HML := Lib.hid (mvd_len L cs m)
        go_wp2_with (first
          | ((with_reducible refine at_slot 27 ?_); (refine arm_load (o := ⟨some 27, _, _, _, _, _⟩) rfl _ _ rfl B 0 rfl (rcs m (mvd L cs m)) (row_all hRB) (sz_ring' HML.out) ?_))
          | ((with_reducible refine arm_store (o := ⟨none, _, _, _, _, _⟩) rfl _ _ _ rfl R 0 rfl (rcs m (mvd L cs m)) rfl _ _ hRR (by rw [rcs_len HML.out, z_len]; omega) (rcs_one _ _) (sz_ring' HML.out) ?_); intro w5 hR5 hO5 hS5))
        refine bodyPost_ret (v := .agg (rcs m (mvd L cs m)).toArray) (result_row (p := 4) (ty := 27) (u := 27) (by kernel_rfl) _ w5 R _ rfl (hR5.congr (lay_all _ _ (by rw [rcs_len HML.out, z_len]))) (sz_ring' HML.out)) rfl ⟨rfl, below_only hbel hO5 lR hbel.size⟩
  · have hd : decide ((4 : Int) ≤ (s : Int) - (L : Int)) = false := decide_eq_false (by omega)
    go_enter Tryz.func74, Tryz.ntmps74
    go_wp2_with (first
      | ((with_reducible refine at_slot 2 ?_); (refine arm_box (o := ⟨some 2, _, _, _, _, _⟩) rfl _ _ rfl (rcs L cs) rfl ?_); intro B w1 hBe hR1 hN1)
      | ((with_reducible refine at_slot 4 ?_); (refine arm_alloc (o := ⟨some 4, _, _, _, _, _⟩) rfl _ rfl (rcs 0 [0, 0, 0, 0]) z_ring ?_); intro R w2 hRe hR2 hN2; have cB := (hR1.old hN2.below).cell (rcs_get0 L cs)))
    have eB := hBe.out; have eR := hRe.out; have s1 := hN1.size; have s2 := hN2.size
    have nBR : B ≠ R := by omega
    have lB : w.heap.size ≤ B := by omega
    have lR : w.heap.size ≤ R := by omega
    have bel2 : Below w.heap.size w w2 := below_step hN1.below (by omega) hN2.below
    have h0 : MvRel w L s cs B R w2 := ⟨⟨L, by omega, hL, by rw [mvd_self HL.out]; exact hR1.old hN2.below⟩, hR2, bel2⟩
    have NBR := Lib.hid nBR
    clear eB eR s1 s2 hBe hRe hR1 hR2 hN1 hN2 nBR bel2 cB w1
    go_loopw [] (fun wr => MvRel w L s cs B R wr) (fun wr => s - lastOf wr B)
    case atStart => exact h0
    case round =>
      clear h0
      obtain ⟨⟨m, hm1, hm2, hRB⟩, hRR, hbel⟩ := hrel
      have cB0 := hRB.cell (rcs_get0 m (mvd L cs m))
      by_cases hlt : m < s
      · have ilt : decide ((m : Int) < (s : Int)) = true := decide_eq_true (by omega)
        have hml := mvd_len L cs m
        have HST := Lib.hid (mvd_step (cs := cs) hm1)
        have HLO := Lib.hid (lastOf_row hRB)
        generalize mvd L cs m = ds at hRB cB0 hml HST
        have HML := Lib.hid hml; clear hml
        have hwm : ((m : Int) + 1) % 4294967296 = ((m + 1 : Nat) : Int) := by omega
        go_wp2_with (first
          | ((with_reducible refine arm_store1 (o := ⟨none, _, _, _, _, _⟩) rfl _ _ _ rfl B 0 rfl .u32 _ rfl (by kernel_rfl) _ _ hRB (by rw [rcs_len HML.out]; omega) ?_); intro w5 hR5 hO5 hS5; have hRB5 : Row w5 B 27 (rcs (m + 1) ds) := hR5.congr (by rw [← rcs_set0 m (m + 1) ds]; congr 2; try omega); clear cB0; have cB5 := hRB5.cell (rcs_get0 (m + 1) ds)))
        refine (ringB_any (m + 1) _ (by omega)).mono ?_
        rintro e w6 ⟨rfl, hN6⟩
        have hRB6 := hRB5.old hN6
        have hRR6 := (hRR.only hO5 (Ne.symm NBR.out)).old hN6
        have bel6 : Below w.heap.size w w6 := below_step (below_only hbel hO5 lB hbel.size) (Nat.le_trans hbel.size hO5.size) hN6
        clear hRB hRR hbel hR5 hO5 hS5 cB5 hN6 hRB5 w5
        have hj : (m + 1) % 4 < 4 := by omega
        generalize hjj : (m + 1) % 4 = j at hj HST ⊢
        clear hjj
        have ij : (j : Int) < 4 := by omega
        go_wp2_with (first
          | ((with_reducible refine arm_store1 (o := ⟨none, _, _, _, _, _⟩) rfl _ _ _ rfl B (1 + j) rfl .u32 0 rfl (by kernel_rfl) _ _ hRB6 (by rw [rcs_len HML.out]; omega) ?_); intro w7 hR7 hO7 hS7))
        have hRB7 : Row w7 B 27 (rcs (m + 1) (mvd L cs (m + 1))) := hR7.congr (by rw [← HST.out]; exact rcs_set (m + 1) j 0 ds)
        simp only [Act.put]
        go_roundw
        case rel => exact ⟨⟨m + 1, by omega, by omega, hRB7⟩, hRR6.only hO7 (Ne.symm NBR.out), below_only bel6 hO7 lB bel6.size⟩
        case measure => rw [lastOf_row hRB7, HLO.out]; omega
      · obtain rfl : m = s := by omega
        have HML := Lib.hid (mvd_len L cs m)
        go_wp2_with (first
          | ((with_reducible refine at_slot 27 ?_); (refine arm_load (o := ⟨some 27, _, _, _, _, _⟩) rfl _ _ rfl B 0 rfl (rcs m (mvd L cs m)) (row_all hRB) (sz_ring' HML.out) ?_))
          | ((with_reducible refine arm_store (o := ⟨none, _, _, _, _, _⟩) rfl _ _ _ rfl R 0 rfl (rcs m (mvd L cs m)) rfl _ _ hRR (by rw [rcs_len HML.out, z_len]; omega) (rcs_one _ _) (sz_ring' HML.out) ?_); intro w5 hR5 hO5 hS5))
        refine bodyPost_ret (v := .agg (rcs m (mvd L cs m)).toArray) (result_row (p := 4) (ty := 27) (u := 27) (by kernel_rfl) _ w5 R _ rfl (hR5.congr (lay_all _ _ (by rw [rcs_len HML.out, z_len]))) (sz_ring' HML.out)) rfl ⟨rfl, below_only hbel hO5 lR hbel.size⟩
end Go.Proofs.YtffpifljeeikfaaGreatDoor.Rg

/-
  The contracts of package ring's Sum, Before and Put over this seat's translation.
-/
namespace Go.Proofs.YtffpifljeeikfaaGreatDoor.Rg
open Go.ChangeShapes Go.WideShapes Go.ChangeAt Go.RowKit Go.Proofs.YtffpifljeeikfaaGreatDoor.Mem Go.Proofs.YtffpifljeeikfaaGreatDoor.Bt
set_option linter.unusedVariables false
set_option linter.unusedSimpArgs false

/-- The first k counts together. -/
def ps (k : Nat) (cs : List Nat) : Nat := (cs.take k).sum
theorem ps_step {k : Nat} {cs : List Nat} (h : cs.length = 4) (hk : k < 4) : ps (k + 1) cs = ps k cs + cs.getD k 0 := by
  obtain ⟨a, b, c, d, rfl⟩ := four h
  obtain rfl | rfl | rfl | rfl : k = 0 ∨ k = 1 ∨ k = 2 ∨ k = 3 := by omega
  all_goals simp [ps]
  all_goals omega
theorem ps_all {cs : List Nat} (h : cs.length = 4) : ps 4 cs = sumc cs := by
  obtain ⟨a, b, c, d, rfl⟩ := four h
  simp [ps, sumc]
  omega
theorem ps_le {cs : List Nat} (h : cs.length = 4) (hs : Small cs) {k : Nat} (hk : k ≤ 4) : ps k cs ≤ 12 := by
  have hs0 := hs 0 (by omega); have hs1 := hs 1 (by omega); have hs2 := hs 2 (by omega); have hs3 := hs 3 (by omega)
  obtain ⟨a, b, c, d, rfl⟩ := four h
  simp only [List.getD_cons_zero, List.getD_cons_succ] at hs0 hs1 hs2 hs3
  obtain rfl | rfl | rfl | rfl | rfl : k = 0 ∨ k = 1 ∨ k = 2 ∨ k = 3 ∨ k = 4 := by omega
  all_goals simp [ps]
  all_goals omega
structure SmRel (w : World) (L : Nat) (cs : List Nat) (B : Nat) (i s : Value) (wr : World) : Prop where
  ex : ∃ k : Nat, k ≤ 4 ∧ i = .int .i64 k ∧ s = .int .u32 (ps k cs : Nat)
  bel : Below w.heap.size w wr
set_option maxHeartbeats 1000000 in
set_option maxRecDepth 100000 in
theorem sum_any (L : Nat) (cs : List Nat) (w : World) (hs : Small cs) (hl : cs.length = 4) :
    Calls Tryz.prog 73 #[.agg (rcs L cs).toArray] w fun e w' => e = .returned (.int .u32 (sumc cs : Nat)) ∧ Below w.heap.size w w' := by
  have HL := Lib.hid hl; have HS := Lib.hid hs; clear hl hs
  go_enter Tryz.func73, Tryz.ntmps73
  go_wp2_with (first
    | ((with_reducible refine at_slot 1 ?_); (refine arm_box (o := ⟨some 1, _, _, _, _, _⟩) rfl _ _ rfl (rcs L cs) rfl ?_); intro B w1 hBe hR1 hN1)
    | ((with_reducible refine at_slot 7 ?_); (refine arm_load (o := ⟨some 7, _, _, _, _, _⟩) rfl _ _ rfl B 1 rfl (u32s cs) (row_counts hR1) (sz_arr' HL.out) ?_)))
  have h0 : SmRel w L cs B (.int .i64 0) (.int .u32 0) w1 := ⟨⟨0, by omega, rfl, rfl⟩, hN1.below⟩
  clear hBe hR1 hN1
  go_loopw [8, 3] (fun i s wr => SmRel w L cs B i s wr) (fun i _ _ => 4 - (intOf i).toNat)
  case atStart => exact h0
  case round =>
    clear h0
    obtain ⟨⟨k, hk, rfl, rfl⟩, hbel⟩ := hrel
    by_cases hlt : k < 4
    · have hst := ps_step HL.out hlt
      have hple := ps_le HL.out HS.out hk
      have hx3 := HS.out k hlt
      have hxg := u32s_get (l := cs) (i := k) (by rw [HL.out]; exact hlt)
      obtain ⟨x, hx⟩ : ∃ x : Nat, x = cs.getD k 0 := ⟨_, rfl⟩
      rw [← hx] at hst hx3 hxg
      clear hx
      have HXG := Lib.hid hxg; have HST := Lib.hid hst; clear hxg hst
      obtain ⟨p, hp⟩ : ∃ p : Nat, p = ps k cs := ⟨_, rfl⟩
      rw [← hp] at hple HST ⊢
      have HPP := Lib.hid hp; clear hp
      have ik : (k : Int) < 4 := by omega
      go_wp2_with (first
        | ((with_reducible refine at_slot 10 ?_); (refine arm_index (o := ⟨some 10, _, _, _, _, _⟩) rfl _ _ _ rfl 4 24 (by kernel_rfl) .u32 (by kernel_rfl) (by kernel_rfl) (u32s cs) rfl .i64 k rfl hlt _ HXG.out ?_)))
      go_roundw
      case rel => exact ⟨⟨k + 1, by omega, by go_num, by rw [HST.out]; congr 1⟩, hbel⟩
      case measure => simp [intOf]; omega
    · obtain rfl : k = 4 := by omega
      go_wp2_with fail
      go_ret
      exact ⟨by rw [ps_all HL.out]; rfl, hbel⟩
/-! ### Before. -/
/-- How many blocks are ahead, and why not. -/
def befN (L : Nat) (cs : List Nat) (sub : Nat) : Nat := if sub ≤ L then 0 else sumc (mvd L cs (sub - 1))
def befE (L sub : Nat) : Int := if sub ≤ L then 6 else 0
set_option maxHeartbeats 1000000 in
set_option maxRecDepth 100000 in
theorem before_any (L sub : Nat) (cs : List Nat) (w : World) (hL : L < 4294967296) (hb : sub < 4294967296) (hs : Small cs) (hl : cs.length = 4) :
    Calls Tryz.prog 53 #[.agg (rcs L cs).toArray, .int .u32 (sub : Int)] w fun e w' => e = .returned (.tuple #[.int .u32 (befN L cs sub : Nat), .int .i64 (befE L sub)]) ∧ Below w.heap.size w w' := by
  have HL := Lib.hid hl; have HS := Lib.hid hs; clear hl hs
  by_cases h : sub ≤ L
  · have hd : decide ((sub : Int) ≤ (L : Int)) = true := decide_eq_true (by omega)
    have hN : Hid (befN L cs sub = 0) := if_pos h
    have hE : Hid (befE L sub = 6) := if_pos h
    go_enter Tryz.func53, Tryz.ntmps53
    go_wp2_with (first
      | ((with_reducible refine at_slot 2 ?_); (refine arm_box (o := ⟨some 2, _, _, _, _, _⟩) rfl _ _ rfl (rcs L cs) rfl ?_); intro B w1 hBe hR1 hN1; have cB := hR1.cell (rcs_get0 L cs)))
    go_ret2
    exact ⟨by rw [hN.out, hE.out]; rfl, hN1.below⟩
  · have hd : decide ((sub : Int) ≤ (L : Int)) = false := decide_eq_false (by omega)
    obtain ⟨m, hm⟩ : ∃ m : Nat, m = sub - 1 := ⟨_, rfl⟩
    have hm1 : (sub : Int) - 1 = (m : Int) := by omega
    have hm2 : ((sub : Int) - 1) % 4294967296 = (m : Int) := by omega
    have hLm : L ≤ m := by omega
    have hmb : m < 4294967296 := by omega
    have hN0 : befN L cs sub = sumc (mvd L cs m) := by unfold befN; rw [if_neg h, hm]
    have hE0 : befE L sub = 0 := if_neg h
    rw [hE0]
    generalize befN L cs sub = nn at hN0 ⊢
    have hN := Lib.hid hN0
    clear hm hN0 hE0
    go_enter Tryz.func53, Tryz.ntmps53
    go_wp2_with (first
      | ((with_reducible refine at_slot 2 ?_); (refine arm_box (o := ⟨some 2, _, _, _, _, _⟩) rfl _ _ rfl (rcs L cs) rfl ?_); intro B w1 hBe hR1 hN1; have cB := hR1.cell (rcs_get0 L cs))
      | ((with_reducible refine at_slot 10 ?_); (refine arm_load (o := ⟨some 10, _, _, _, _, _⟩) rfl _ _ rfl B 0 rfl (rcs L cs) (row_all hR1) (sz_ring' HL.out) ?_)))
    refine (moved_any L m cs _ hLm hmb HL.out).mono ?_
    rintro e w2 ⟨rfl, hB2⟩
    have bel2 := below_step hN1.below hN1.below.size hB2
    clear hB2 cB hR1 hN1 hBe
    clear w1
    go_wp2_with fail
    refine (sum_any m (mvd L cs m) _ (mvd_small HS.out) (mvd_len _ _ _)).mono ?_
    rintro e w3 ⟨rfl, hB3⟩
    rw [← hN.out]
    have bel3 := below_step bel2 bel2.size hB3
    go_wp2_with fail
    go_ret2
    exact ⟨rfl, bel3⟩
/-! ### Put. -/
set_option maxHeartbeats 1000000 in
set_option maxRecDepth 100000 in
theorem put_early (L sub : Nat) (cs : List Nat) (w : World) (h : sub < L) (hl : cs.length = 4) :
    Calls Tryz.prog 70 #[.agg (rcs L cs).toArray, .int .u32 (sub : Int)] w fun e w' => e = .returned (.tuple #[.agg (rcs 0 [0, 0, 0, 0]).toArray, .int .i64 6]) ∧ Below w.heap.size w w' := by
  have HL := Lib.hid hl; clear hl
  have hd : decide ((sub : Int) < (L : Int)) = true := decide_eq_true (by omega)
  go_enter Tryz.func70, Tryz.ntmps70
  go_wp2_with (first
    | ((with_reducible refine at_slot 2 ?_); (refine arm_box (o := ⟨some 2, _, _, _, _, _⟩) rfl _ _ rfl (rcs L cs) rfl ?_); intro B w1 hBe hR1 hN1)
    | ((with_reducible refine at_slot 4 ?_); (refine arm_alloc (o := ⟨some 4, _, _, _, _, _⟩) rfl _ rfl (rcs 0 [0, 0, 0, 0]) z_ring ?_); intro R w2 hRe hR2 hN2; have cB := (hR1.old hN2.below).cell (rcs_get0 L cs))
    | ((with_reducible refine at_slot 12 ?_); (refine arm_build (o := ⟨some 12, _, _, _, _, _⟩) rfl _ _ rfl (rcs 0 [0, 0, 0, 0]) (by kernel_rfl) ?_))
    | ((with_reducible refine arm_store (o := ⟨none, _, _, _, _, _⟩) rfl _ _ _ rfl R 0 rfl (rcs 0 [0, 0, 0, 0]) rfl _ _ hR2 (by rw [z_len]; omega) (rcs_one _ _) (sz_ring' rfl) ?_); intro w3 hR3 hO3 hS3))
  have eR := hRe.out; have s1 := hN1.size; have s2 := hN2.size
  refine bodyPost_ret (v := .tuple #[.agg (rcs 0 [0, 0, 0, 0]).toArray, .int .i64 6]) (result_row2 (p := 4) (u := 5) (ty := 27) (t := 27) (by kernel_rfl) _ w3 R _ _ rfl rfl (hR3.congr (lay_all _ _ rfl)) (sz_ring' rfl)) rfl ⟨rfl, below_only (below_step hN1.below (by omega) hN2.below) hO3 (by omega) (by omega)⟩
theorem mvd_at {L s : Nat} {cs : List Nat} : (mvd L cs s).getD (s % 4) 0 = atG L cs s := by
  rw [mvd_getD _ _ _ (by omega), lat_of (s : Int) s _ (by omega) (by omega) (by omega)]
set_option maxHeartbeats 1000000 in
set_option maxRecDepth 100000 in
theorem put_full (L sub : Nat) (cs : List Nat) (w : World) (h : L ≤ sub) (hb : sub < 4294967296) (hf : atG L cs sub = 3) (hl : cs.length = 4) :
    Calls Tryz.prog 70 #[.agg (rcs L cs).toArray, .int .u32 (sub : Int)] w fun e w' => e = .returned (.tuple #[.agg (rcs 0 [0, 0, 0, 0]).toArray, .int .i64 11]) ∧ Below w.heap.size w w' := by
  have HL := Lib.hid hl; clear hl
  have hd : decide ((sub : Int) < (L : Int)) = false := decide_eq_false (by omega)
  have HM := Lib.hid (moved_any L sub cs)
  have hml := mvd_len L cs sub
  have hat := mvd_at (L := L) (s := sub) (cs := cs)
  have hpd : Hid ((mvd L cs sub).set (sub % 4) (atG L cs sub + 1) = putd L cs sub) := rfl
  have HPL := Lib.hid (putd_len L cs sub)
  generalize putd L cs sub = pd at hpd HPL ⊢
  generalize atG L cs sub = x at hat hf hpd
  generalize mvd L cs sub = ds at HM hml hat hpd
  have HML := Lib.hid hml; have HAT := Lib.hid hat; clear hml hat
  subst hf
  go_enter Tryz.func70, Tryz.ntmps70
  go_wp2_with (first
    | ((with_reducible refine at_slot 2 ?_); (refine arm_box (o := ⟨some 2, _, _, _, _, _⟩) rfl _ _ rfl (rcs L cs) rfl ?_); intro B w1 hBe hR1 hN1)
    | ((with_reducible refine at_slot 4 ?_); (refine arm_alloc (o := ⟨some 4, _, _, _, _, _⟩) rfl _ rfl (rcs 0 [0, 0, 0, 0]) z_ring ?_); intro R w2 hRe hR2 hN2; have cB := (hR1.old hN2.below).cell (rcs_get0 L cs))
    | ((with_reducible refine at_slot 13 ?_); (refine arm_load (o := ⟨some 13, _, _, _, _, _⟩) rfl _ _ rfl B 0 rfl (rcs L cs) (row_all (hR1.old hN2.below)) (sz_ring' HL.out) ?_)))
  refine (HM.out _ h hb HL.out).mono ?_
  rintro e w3 ⟨rfl, hB3⟩
  have eR := hRe.out; have s1 := hN1.size; have s2 := hN2.size; have s3 := hB3.size
  have bel3 : Below w.heap.size w w3 := below_step (below_step hN1.below (by omega) hN2.below) (by omega) hB3
  have hRR3 := hR2.old hB3
  have lR : w.heap.size ≤ R := by omega
  have ltR : R < w3.heap.size := by omega
  have LTR := Lib.hid ltR; clear ltR
  clear eR s1 s2 s3 hBe hRe hR1 hN1 hN2 hR2 hB3 cB
  clear w1 w2
  go_wp2_with (first
    | ((with_reducible refine at_slot 6 ?_); (refine arm_alloc (o := ⟨some 6, _, _, _, _, _⟩) rfl _ rfl (rcs 0 [0, 0, 0, 0]) z_ring ?_); intro N w4 hNe hR4 hN4)
    | ((with_reducible refine arm_store (o := ⟨none, _, _, _, _, _⟩) rfl _ _ _ rfl N 0 rfl (rcs sub ds) rfl _ _ hR4 (by rw [rcs_len HML.out, z_len]; omega) (rcs_one _ _) (sz_ring' HML.out) ?_); intro w5 hR5 hO5 hS5))
  refine (ringB_any sub _ hb).mono ?_
  rintro e w6 ⟨rfl, hB6⟩
  have eN := hNe.out; have s4 := hN4.size; have s5 := hS5.out
  have nRN : R ≠ N := by have := LTR.out; omega
  have NRN := Lib.hid nRN
  have lN : w.heap.size ≤ N := by have := bel3.size; omega
  have bel6 : Below w.heap.size w w6 := below_step (below_only (below_step bel3 bel3.size hN4.below) hO5 lN (by have := bel3.size; omega)) (by have := bel3.size; omega) hB6
  have hRR6 := ((hRR3.old hN4.below).only hO5 nRN).old hB6
  have hRN6 : Row w6 N 27 (rcs sub ds) := (hR5.congr (lay_all _ _ (by rw [rcs_len HML.out, z_len]))).old hB6
  clear eN s4 s5 nRN hNe hR4 hN4 hR5 hO5 hS5 hB6 bel3 hRR3
  clear w4 w5
  have hj : sub % 4 < 4 := by omega
  generalize sub % 4 = j at hj HAT hpd ⊢
  have cN := hRN6.cell (rcs_get (L := sub) (cs := ds) (i := j) (by rw [HML.out]; exact hj))
  rw [HAT.out] at cN
  have ij : (j : Int) < 4 := by omega
  go_wp2_with (first
    | ((with_reducible refine at_slot 23 ?_); (refine arm_build (o := ⟨some 23, _, _, _, _, _⟩) rfl _ _ rfl (rcs 0 [0, 0, 0, 0]) (by kernel_rfl) ?_))
    | ((with_reducible refine arm_store (o := ⟨none, _, _, _, _, _⟩) rfl _ _ _ rfl R 0 rfl (rcs 0 [0, 0, 0, 0]) rfl _ _ hRR6 (by rw [z_len]; omega) (rcs_one _ _) (sz_ring' rfl) ?_); intro w7 hR7 hO7 hS7))
  refine bodyPost_ret (v := .tuple #[.agg (rcs 0 [0, 0, 0, 0]).toArray, .int .i64 11]) (result_row2 (p := 4) (u := 5) (ty := 27) (t := 27) (by kernel_rfl) _ w7 R _ _ rfl rfl (hR7.congr (lay_all _ _ rfl)) (sz_ring' rfl)) rfl ⟨rfl, below_only bel6 hO7 lR bel6.size⟩
set_option maxHeartbeats 1000000 in
set_option maxRecDepth 100000 in
theorem put_ok (L sub : Nat) (cs : List Nat) (w : World) (h : L ≤ sub) (hb : sub < 4294967296) (hf : atG L cs sub < 3) (hl : cs.length = 4) :
    Calls Tryz.prog 70 #[.agg (rcs L cs).toArray, .int .u32 (sub : Int)] w fun e w' => e = .returned (.tuple #[.agg (rcs sub (putd L cs sub)).toArray, .int .i64 0]) ∧ Below w.heap.size w w' := by
  have HL := Lib.hid hl; clear hl
  have hd : decide ((sub : Int) < (L : Int)) = false := decide_eq_false (by omega)
  have HM := Lib.hid (moved_any L sub cs)
  have hml := mvd_len L cs sub
  have hat := mvd_at (L := L) (s := sub) (cs := cs)
  have hpd : Hid ((mvd L cs sub).set (sub % 4) (atG L cs sub + 1) = putd L cs sub) := rfl
  have HPL := Lib.hid (putd_len L cs sub)
  generalize putd L cs sub = pd at hpd HPL ⊢
  generalize atG L cs sub = x at hat hf hpd
  generalize mvd L cs sub = ds at HM hml hat hpd
  have HML := Lib.hid hml; have HAT := Lib.hid hat; clear hml hat
  have hne : ((x : Int) == 3) = false := beq_eq_false_iff_ne.2 (by omega)
  have hne2 : (((x : Nat) : Int) = 3) = False := by simp; omega
  have hwx : ((x : Int) + 1) % 4294967296 = ((x + 1 : Nat) : Int) := by omega
  go_enter Tryz.func70, Tryz.ntmps70
  go_wp2_with (first
    | ((with_reducible refine at_slot 2 ?_); (refine arm_box (o := ⟨some 2, _, _, _, _, _⟩) rfl _ _ rfl (rcs L cs) rfl ?_); intro B w1 hBe hR1 hN1)
    | ((with_reducible refine at_slot 4 ?_); (refine arm_alloc (o := ⟨some 4, _, _, _, _, _⟩) rfl _ rfl (rcs 0 [0, 0, 0, 0]) z_ring ?_); intro R w2 hRe hR2 hN2; have cB := (hR1.old hN2.below).cell (rcs_get0 L cs))
    | ((with_reducible refine at_slot 13 ?_); (refine arm_load (o := ⟨some 13, _, _, _, _, _⟩) rfl _ _ rfl B 0 rfl (rcs L cs) (row_all (hR1.old hN2.below)) (sz_ring' HL.out) ?_)))
  refine (HM.out _ h hb HL.out).mono ?_
  rintro e w3 ⟨rfl, hB3⟩
  have eR := hRe.out; have s1 := hN1.size; have s2 := hN2.size; have s3 := hB3.size
  have bel3 : Below w.heap.size w w3 := below_step (below_step hN1.below (by omega) hN2.below) (by omega) hB3
  have hRR3 := hR2.old hB3
  have lR : w.heap.size ≤ R := by omega
  have ltR : R < w3.heap.size := by omega
  have LTR := Lib.hid ltR; clear ltR
  clear eR s1 s2 s3 hBe hRe hR1 hN1 hN2 hR2 hB3 cB
  clear w1 w2
  go_wp2_with (first
    | ((with_reducible refine at_slot 6 ?_); (refine arm_alloc (o := ⟨some 6, _, _, _, _, _⟩) rfl _ rfl (rcs 0 [0, 0, 0, 0]) z_ring ?_); intro N w4 hNe hR4 hN4)
    | ((with_reducible refine arm_store (o := ⟨none, _, _, _, _, _⟩) rfl _ _ _ rfl N 0 rfl (rcs sub ds) rfl _ _ hR4 (by rw [rcs_len HML.out, z_len]; omega) (rcs_one _ _) (sz_ring' HML.out) ?_); intro w5 hR5 hO5 hS5))
  refine (ringB_any sub _ hb).mono ?_
  rintro e w6 ⟨rfl, hB6⟩
  have eN := hNe.out; have s4 := hN4.size; have s5 := hS5.out
  have nRN : R ≠ N := by have := LTR.out; omega
  have NRN := Lib.hid nRN
  have lN : w.heap.size ≤ N := by have := bel3.size; omega
  have bel6 : Below w.heap.size w w6 := below_step (below_only (below_step bel3 bel3.size hN4.below) hO5 lN (by have := bel3.size; omega)) (by have := bel3.size; omega) hB6
  have hRR6 := ((hRR3.old hN4.below).only hO5 nRN).old hB6
  have hRN6 : Row w6 N 27 (rcs sub ds) := (hR5.congr (lay_all _ _ (by rw [rcs_len HML.out, z_len]))).old hB6
  clear eN s4 s5 nRN hNe hR4 hN4 hR5 hO5 hS5 hB6 bel3 hRR3
  clear w4 w5
  have hj : sub % 4 < 4 := by omega
  generalize sub % 4 = j at hj HAT hpd ⊢
  have cN := hRN6.cell (rcs_get (L := sub) (cs := ds) (i := j) (by rw [HML.out]; exact hj))
  rw [HAT.out] at cN
  have ij : (j : Int) < 4 := by omega
  go_wp2_with (first
    | ((with_reducible refine arm_store1 (o := ⟨none, _, _, _, _, _⟩) rfl _ _ _ rfl N (1 + j) rfl .u32 _ rfl (by kernel_rfl) _ _ hRN6 (by rw [rcs_len HML.out]; omega) ?_); intro w7 hR7 hO7 hS7; have hRN7 : Row w7 N 27 (rcs sub pd) := hR7.congr (by rw [← hpd.out, ← rcs_set]; congr 2))
    | ((with_reducible refine at_slot 31 ?_); (refine arm_load (o := ⟨some 31, _, _, _, _, _⟩) rfl _ _ rfl N 0 rfl (rcs sub pd) (row_all hRN7) (sz_ring' HPL.out) ?_))
    | ((with_reducible refine arm_store (o := ⟨none, _, _, _, _, _⟩) rfl _ _ _ rfl R 0 rfl (rcs sub pd) rfl _ _ (hRR6.only hO7 NRN.out) (by rw [rcs_len HPL.out, z_len]; omega) (rcs_one _ _) (sz_ring' HPL.out) ?_); intro w8 hR8 hO8 hS8))
  refine bodyPost_ret (v := .tuple #[.agg (rcs sub pd).toArray, .int .i64 0]) (result_row2 (p := 4) (u := 5) (ty := 27) (t := 27) (by kernel_rfl) _ w8 R _ _ rfl rfl (hR8.congr (lay_all _ _ (by rw [rcs_len HPL.out, z_len]))) (sz_ring' HPL.out)) rfl ⟨rfl, below_only (below_only bel6 hO7 lN bel6.size) hO8 lR (Nat.le_trans bel6.size hO7.size)⟩
end Go.Proofs.YtffpifljeeikfaaGreatDoor.Rg

/-
  The contracts of the document's answers for rings over this seat's translation.
-/
namespace Go.Proofs.YtffpifljeeikfaaGreatDoor.Rg
open Go.ChangeShapes Go.WideShapes Go.ChangeAt Go.RowKit Go.Proofs.YtffpifljeeikfaaGreatDoor.Mem Go.Proofs.YtffpifljeeikfaaGreatDoor.Bt
set_option linter.unusedVariables false
set_option linter.unusedSimpArgs false

/-! ### Right. -/
structure RrRel (w : World) (L : Nat) (cs : List Nat) (B : Nat) (i : Value) (wr : World) : Prop where
  ex : ∃ k : Nat, k ≤ 4 ∧ i = .int .i64 k ∧ ∀ j, j < k → cs.getD j 0 ≤ 3
  row : Row wr B 42 (rcs L cs)
  bel : Below w.heap.size w wr
set_option maxHeartbeats 1000000 in
set_option maxRecDepth 100000 in
theorem rright_any (L : Nat) (cs : List Nat) (w : World) (hL : L < 4294967296) (hl : cs.length = 4) :
    Calls Tryz.prog 55 #[.agg (rcs L cs).toArray] w fun e w' => e = .returned (.bool (decide (Rt L cs))) ∧ Below w.heap.size w w' := by
  have HL := Lib.hid hl; clear hl
  go_enter Tryz.func55, Tryz.ntmps55
  go_wp2_with (first
    | ((with_reducible refine at_slot 1 ?_); (refine arm_box (o := ⟨some 1, _, _, _, _, _⟩) rfl _ _ rfl (rcs L cs) rfl ?_); intro B w1 hBe hR1 hN1))
  have h0 : RrRel w L cs B (.int .i64 0) w1 := ⟨⟨0, by omega, rfl, fun j hj => by omega⟩, hR1, hN1.below⟩
  clear hBe hR1 hN1
  go_loopw [3] (fun i wr => RrRel w L cs B i wr) (fun i _ => 4 - (intOf i).toNat)
  case atStart => exact h0
  case round =>
    clear h0
    obtain ⟨⟨k, hk, rfl, hall⟩, hRB, hbel⟩ := hrel
    have HA := Lib.hid hall; clear hall
    by_cases hlt : k < 4
    · have cB := hRB.cell (rcs_get (L := L) (cs := cs) (i := k) (by rw [HL.out]; exact hlt))
      obtain ⟨x, hx⟩ : ∃ x : Nat, x = cs.getD k 0 := ⟨_, rfl⟩
      rw [← hx] at cB
      have HX := Lib.hid hx; clear hx
      have ik : (k : Int) < 4 := by omega
      by_cases hb : x ≤ 3
      · have hd : decide ((3 : Int) < (x : Int)) = false := decide_eq_false (by omega)
        go_wp2_with fail
        go_roundw
        case rel => exact ⟨⟨k + 1, by omega, by go_num, fun j hj => by
          rcases Nat.lt_or_ge j k with h | h
          · exact HA.out j h
          · obtain rfl : j = k := by omega
            rw [← HX.out]; exact hb⟩, hRB, hbel⟩
        case measure => simp [intOf]; omega
      · have hd : decide ((3 : Int) < (x : Int)) = true := decide_eq_true (by omega)
        have hv : Hid (decide (Rt L cs) = false) := decide_eq_false (fun h => hb (by rw [HX.out]; exact h.1 k hlt))
        go_wp2_with fail
        go_ret
        exact ⟨by rw [hv.out]; rfl, hbel⟩
    · obtain rfl : k = 4 := by omega
      have hj : L % 4 < 4 := by omega
      have hjj : ((L : Int) % 4) = ((L % 4 : Nat) : Int) := by omega
      have hv : Hid (decide (Rt L cs) = decide ((1 : Int) ≤ ((cs.getD (L % 4) 0 : Nat) : Int))) := decide_eq_decide.2 ⟨fun h => by have := h.2; omega, fun h => ⟨fun i hi => HA.out i hi, by omega⟩⟩
      generalize L % 4 = j at hj hjj hv
      have cB := hRB.cell (rcs_get (L := L) (cs := cs) (i := j) (by rw [HL.out]; exact hj))
      have cB0 := hRB.cell (rcs_get0 L cs)
      generalize cs.getD j 0 = x at cB hv
      have ij : (j : Int) < 4 := by omega
      go_wp2_with fail
      go_ret
      exact ⟨by rw [hv.out]; rfl, hbel⟩

/-! ### of. -/
structure OfRel (w : World) (L p : Nat) (i : Value) (wr : World) : Prop where
  ex : ∃ g : Int, i = .int .i64 g ∧ lat L p ≤ g ∧ g ≤ L
  bel : Below w.heap.size w wr
theorem tmod4 (g : Int) : ((g.tmod 4 + 4).tmod 4) = g % 4 := by
  rcases Int.le_total 0 g with h | h
  · rw [Int.tmod_eq_emod_of_nonneg h, Int.tmod_eq_emod_of_nonneg (by omega)]; omega
  · have : g.tmod 4 = -((-g) % 4) := by rw [← Int.tmod_eq_emod_of_nonneg (by omega : 0 ≤ -g), Int.neg_tmod]; omega
    rw [this, Int.tmod_eq_emod_of_nonneg (by omega)]; omega
theorem tmod_bd (g : Int) : -4 < g.tmod 4 ∧ g.tmod 4 < 4 := by
  rcases Int.le_total 0 g with h | h
  · rw [Int.tmod_eq_emod_of_nonneg h]; omega
  · have : g.tmod 4 = -((-g) % 4) := by rw [← Int.tmod_eq_emod_of_nonneg (by omega : 0 ≤ -g), Int.neg_tmod]; omega
    rw [this]; omega
set_option maxHeartbeats 1000000 in
set_option maxRecDepth 100000 in
theorem of_any (L p : Nat) (cs : List Nat) (w : World) (hL : L < 4294967296) (hp : p < 4) (hl : cs.length = 4) :
    Calls Tryz.prog 78 #[.agg (rcs L cs).toArray, .int .i64 (p : Int)] w fun e w' => e = .returned (.int .i64 (lat L p)) ∧ Below w.heap.size w w' := by
  have HL := Lib.hid hl; clear hl
  go_enter Tryz.func78, Tryz.ntmps78
  go_wp2_with (first
    | ((with_reducible refine at_slot 2 ?_); (refine arm_box (o := ⟨some 2, _, _, _, _, _⟩) rfl _ _ rfl (rcs L cs) rfl ?_); intro B w1 hBe hR1 hN1; have cB := hR1.cell (rcs_get0 L cs)))
  have h0 : OfRel w L p (.int .i64 L) w1 := ⟨⟨L, rfl, lat_le _ _, by omega⟩, hN1.below⟩
  clear cB hBe hR1 hN1
  go_loopw [5] (fun i wr => OfRel w L p i wr) (fun i _ => (intOf i - lat L p).toNat)
  case atStart => exact h0
  case round =>
    clear h0
    obtain ⟨⟨g, rfl, hg1, hg2⟩, hbel⟩ := hrel
    have hg3 := lat_gt L p
    have hgm := lat_mod (L : Int) hp
    have hgo := fun h => lat_of (L : Int) g p (by omega) hg2 h
    obtain ⟨l, hll⟩ : ∃ l : Int, l = lat L p := ⟨_, rfl⟩
    rw [← hll] at hg1 hg3 hgm hgo
    have HLL := Lib.hid hll; have HGM := Lib.hid hgm; have HGO := Lib.hid hgo; clear hll hgm hgo
    have htm := tmod4 g
    have hr := tmod_bd g
    by_cases hq : g % 4 = (p : Int)
    · have hne : (g % 4 != (p : Int)) = false := by rw [hq]; simp
      go_wp2_with fail
      go_ret
      exact ⟨by rw [← HLL.out, HGO.out hq]; rfl, hbel⟩
    · have hne : (g % 4 != (p : Int)) = true := bne_iff_ne.2 hq
      have hlg : l < g := by
        rcases Int.lt_or_le l g with h | h
        · exact h
        · have : l = g := by omega
          subst this
          exact absurd HGM.out hq
      go_wp2_with fail
      go_roundw
      case rel => exact ⟨⟨g - 1, rfl, by rw [← HLL.out]; omega, by omega⟩, hbel⟩
      case measure => rw [← HLL.out]; simp [intOf]; omega
/-! ### At. -/
structure AtRel (w : World) (L : Nat) (cs : List Nat) (g : Int) (B : Nat) (i : Value) (wr : World) : Prop where
  ex : ∃ k : Nat, k ≤ 4 ∧ i = .int .i64 k ∧ ∀ j, j < k → lat L j ≠ g
  row : Row wr B 42 (rcs L cs)
  bel : Below w.heap.size w wr
theorem atG_none {L : Nat} {cs : List Nat} {g : Int} (h : ∀ j, j < 4 → lat L j ≠ g) : atG L cs g = 0 := by
  unfold atG
  split
  · rename_i hc
    exact absurd (lat_of (L : Int) g (g % 4).toNat hc.1 hc.2 (by omega)) (h _ (by omega))
  · rfl
set_option maxHeartbeats 1000000 in
set_option maxRecDepth 100000 in
theorem at_any (L : Nat) (cs : List Nat) (g : Int) (w : World) (hL : L < 4294967296) (hl : cs.length = 4) :
    Calls Tryz.prog 56 #[.agg (rcs L cs).toArray, .int .i64 g] w fun e w' => e = .returned (.int .u32 (atG L cs g : Nat)) ∧ Below w.heap.size w w' := by
  have HL := Lib.hid hl; clear hl
  go_enter Tryz.func56, Tryz.ntmps56
  go_wp2_with (first
    | ((with_reducible refine at_slot 2 ?_); (refine arm_box (o := ⟨some 2, _, _, _, _, _⟩) rfl _ _ rfl (rcs L cs) rfl ?_); intro B w1 hBe hR1 hN1))
  have h0 : AtRel w L cs g B (.int .i64 0) w1 := ⟨⟨0, by omega, rfl, fun j hj => by omega⟩, hR1, hN1.below⟩
  clear hBe hR1 hN1
  go_loopw [5] (fun i wr => AtRel w L cs g B i wr) (fun i _ => 4 - (intOf i).toNat)
  case atStart => exact h0
  case round =>
    clear h0
    obtain ⟨⟨k, hk, rfl, hall⟩, hRB, hbel⟩ := hrel
    have HA := Lib.hid hall; clear hall
    by_cases hlt : k < 4
    · have ik : (k : Int) < 4 := by omega
      go_wp2_with (first
        | ((with_reducible refine at_slot 10 ?_); (refine arm_load (o := ⟨some 10, _, _, _, _, _⟩) rfl _ _ rfl B 0 rfl (rcs L cs) (row_all hRB) (sz_rref' HL.out) ?_)))
      refine (of_any L k cs _ hL hlt HL.out).mono ?_
      rintro e w2 ⟨rfl, hB2⟩
      have hRB2 := hRB.old hB2
      have bel2 : Below w.heap.size w w2 := below_step hbel hbel.size hB2
      have cB := hRB2.cell (rcs_get (L := L) (cs := cs) (i := k) (by rw [HL.out]; exact hlt))
      obtain ⟨l, hll⟩ : ∃ l : Int, l = lat L k := ⟨_, rfl⟩
      rw [← hll]
      have HLL := Lib.hid hll; clear hll hRB hbel hB2
      by_cases hq : l = g
      · have heq : (l == g) = true := by rw [hq]; simp
        have hv : Hid (atG L cs g = cs.getD k 0) := by
          have := atG_lat L cs hlt
          rw [← HLL.out, hq] at this
          exact this
        go_wp2_with fail
        go_ret
        exact ⟨by rw [hv.out]; rfl, bel2⟩
      · have heq : (l == g) = false := beq_eq_false_iff_ne.2 hq
        go_wp2_with fail
        go_roundw
        case rel => exact ⟨⟨k + 1, by omega, by go_num, fun j hj => by
          rcases Nat.lt_or_ge j k with h | h
          · exact HA.out j h
          · obtain rfl : j = k := by omega
            rw [← HLL.out]; exact hq⟩, hRB2, bel2⟩
        case measure => simp [intOf]; omega
    · obtain rfl : k = 4 := by omega
      have hv : Hid (atG L cs g = 0) := atG_none (fun j hj => HA.out j hj)
      go_wp2_with fail
      go_ret
      exact ⟨by rw [hv.out]; rfl, hbel⟩
/-! ### Sum. -/
/-! ### Before. -/
def bsum (L : Nat) (cs : List Nat) (sub : Nat) : Nat → Nat
  | 0 => 0
  | k + 1 => bsum L cs sub k + atG L cs ((sub : Int) - ((k + 1 : Nat) : Int))
theorem bsum_le {L : Nat} {cs : List Nat} (h : Small cs) (sub k : Nat) : bsum L cs sub k ≤ 3 * k := by
  induction k with
  | zero => exact Nat.le_refl _
  | succ k ih => unfold bsum; have := atG_small (L := L) h ((sub : Int) - ((k + 1 : Nat) : Int)); omega
theorem bsum_all {L sub : Nat} {cs : List Nat} (h : L < sub) : bsum L cs sub 4 = sumc (mvd L cs (sub - 1)) := by
  rw [sumc_mvd]
  simp only [bsum]
  have e1 : ((sub - 1 : Nat) : Int) = (sub : Int) - ((0 + 1 : Nat) : Int) := by omega
  have e2 : ((sub - 1 : Nat) : Int) - 1 = (sub : Int) - ((1 + 1 : Nat) : Int) := by omega
  have e3 : ((sub - 1 : Nat) : Int) - 2 = (sub : Int) - ((2 + 1 : Nat) : Int) := by omega
  have e4 : ((sub - 1 : Nat) : Int) - 3 = (sub : Int) - ((3 + 1 : Nat) : Int) := by omega
  rw [e2, e3, e4, e1]
  omega
structure BfRel (w : World) (L : Nat) (cs : List Nat) (sub B : Nat) (i n : Value) (wr : World) : Prop where
  ex : ∃ k : Nat, k ≤ 4 ∧ i = .int .i64 ((k : Int) + 1) ∧ n = .int .u32 (bsum L cs sub k : Nat)
  row : Row wr B 42 (rcs L cs)
  bel : Below w.heap.size w wr
set_option maxHeartbeats 1000000 in
set_option maxRecDepth 100000 in
theorem rbefore_any (L sub : Nat) (cs : List Nat) (w : World) (hL : L < 4294967296) (hb : sub < 4294967296) (hs : Small cs) (hl : cs.length = 4) :
    Calls Tryz.prog 40 #[.agg (rcs L cs).toArray, .int .u32 (sub : Int)] w fun e w' => e = .returned (.tuple #[.int .u32 (befN L cs sub : Nat), .int .i64 (befE L sub)]) ∧ Below w.heap.size w w' := by
  have HL := Lib.hid hl; have HS := Lib.hid hs; clear hl hs
  by_cases h : sub ≤ L
  · have hd : decide ((sub : Int) ≤ (L : Int)) = true := decide_eq_true (by omega)
    have hN : Hid (befN L cs sub = 0) := if_pos h
    have hE : Hid (befE L sub = 6) := if_pos h
    go_enter Tryz.func40, Tryz.ntmps40
    go_wp2_with (first
      | ((with_reducible refine at_slot 2 ?_); (refine arm_box (o := ⟨some 2, _, _, _, _, _⟩) rfl _ _ rfl (rcs L cs) rfl ?_); intro B w1 hBe hR1 hN1; have cB := hR1.cell (rcs_get0 L cs)))
    go_ret2
    exact ⟨by rw [hN.out, hE.out]; rfl, hN1.below⟩
  · have hd : decide ((sub : Int) ≤ (L : Int)) = false := decide_eq_false (by omega)
    have hN : Hid (befN L cs sub = bsum L cs sub 4) := by unfold befN Hid; rw [if_neg h, bsum_all (by omega)]
    have hE : Hid (befE L sub = 0) := if_neg h
    go_enter Tryz.func40, Tryz.ntmps40
    go_wp2_with (first
      | ((with_reducible refine at_slot 2 ?_); (refine arm_box (o := ⟨some 2, _, _, _, _, _⟩) rfl _ _ rfl (rcs L cs) rfl ?_); intro B w1 hBe hR1 hN1; have cB := hR1.cell (rcs_get0 L cs)))
    have h0 : BfRel w L cs sub B (.int .i64 1) (.int .u32 0) w1 := ⟨⟨0, by omega, rfl, rfl⟩, hR1, hN1.below⟩
    clear hBe hR1 hN1 cB
    go_loopw [7, 6] (fun i n wr => BfRel w L cs sub B i n wr) (fun i _ _ => 5 - (intOf i).toNat)
    case atStart => exact h0
    case round =>
      clear h0
      obtain ⟨⟨k, hk, rfl, rfl⟩, hRB, hbel⟩ := hrel
      by_cases hlt : k < 4
      · have ik : decide ((k : Int) + 1 ≤ 4) = true := decide_eq_true (by omega)
        have hle := bsum_le HS.out (L := L) sub k
        have hx3 := atG_small HS.out (L := L) ((sub : Int) - ((k : Int) + 1))
        have hst : Hid (bsum L cs sub (k + 1) = bsum L cs sub k + atG L cs ((sub : Int) - ((k : Int) + 1))) := rfl
        generalize bsum L cs sub k = n at hle hst
        go_wp2_with (first
          | ((with_reducible refine at_slot 17 ?_); (refine arm_load (o := ⟨some 17, _, _, _, _, _⟩) rfl _ _ rfl B 0 rfl (rcs L cs) (row_all hRB) (sz_rref' HL.out) ?_)))
        refine (at_any L cs ((sub : Int) - ((k : Int) + 1)) _ hL HL.out).mono ?_
        rintro e w2 ⟨rfl, hB2⟩
        have hRB2 := hRB.old hB2
        have bel2 : Below w.heap.size w w2 := below_step hbel hbel.size hB2
        generalize atG L cs ((sub : Int) - ((k : Int) + 1)) = x at hx3 hst ⊢
        clear hRB hbel hB2
        go_wp2_with fail
        go_roundw
        case rel => exact ⟨⟨k + 1, by omega, by go_num, by rw [hst.out]; congr 1⟩, hRB2, bel2⟩
        case measure => simp [intOf]; omega
      · obtain rfl : k = 4 := by omega
        have ik : decide (((4 : Nat) : Int) + 1 ≤ 4) = false := by decide
        have ik2 : decide ((4 : Int) + 1 ≤ 4) = false := by decide
        go_wp2_with fail
        go_ret2
        exact ⟨by rw [hN.out, hE.out]; rfl, hbel⟩
end Go.Proofs.YtffpifljeeikfaaGreatDoor.Rg

/-
  The contract of the document's Put over this seat's translation.
-/
namespace Go.Proofs.YtffpifljeeikfaaGreatDoor.Rg
open Go.ChangeShapes Go.WideShapes Go.ChangeAt Go.RowKit Go.Proofs.YtffpifljeeikfaaGreatDoor.Mem Go.Proofs.YtffpifljeeikfaaGreatDoor.Bt
set_option linter.unusedVariables false
set_option linter.unusedSimpArgs false

theorem run_op_indexA {P : Program} {o : Oper} {a : Act} (t : TypeId) (x ix : Operand) (ho : o.op = .indexAddr t x ix) (n : Nat) (e : TypeId) (hu : P.underlying t = some (.array n e)) (hse : (P.info? e).map (·.size) = some 1)
    (g off : Nat) (hx : a.eval x = .pointer (some ⟨g, off, none⟩)) (kk : IntKind) (k : Nat) (hi : a.eval ix = .int kk (k : Int)) (hk : k < n) (w : World) : (execOp a.eval o).run P w = .ok (.value (.pointer (some ⟨g, off + k, none⟩))) w := by
  cases hq : P.info? e with
  | none => simp [hq] at hse
  | some ie =>
    have hs : ie.size = 1 := by simpa [hq] using hse
    have h3 : (⟨g, off, none⟩ : Addr).add k = ⟨g, off + k, none⟩ := Addr.add_mid g off k
    unfold execOp
    simp [ho, hx, hi, Instr.indexAt, asIntOf, run_underlying hu, sizeOf, typeInfo, hq, hs, hk, h3, Instr.sureAddr]
/-- The counts, the first k filled. -/
def fl (k : Nat) (ds : List Nat) : List Nat := ds.take k ++ List.replicate (4 - k) 0
theorem fl_len {k : Nat} {ds : List Nat} (h : ds.length = 4) (hk : k ≤ 4) : (fl k ds).length = 4 := by unfold fl; simp [h]; omega
theorem fl_step {k : Nat} {ds : List Nat} (h : ds.length = 4) (hk : k < 4) : (fl k ds).set k (ds.getD k 0) = fl (k + 1) ds := by
  obtain ⟨a, b, c, d, rfl⟩ := four h
  obtain rfl | rfl | rfl | rfl : k = 0 ∨ k = 1 ∨ k = 2 ∨ k = 3 := by omega
  all_goals rfl
theorem fl_all {ds : List Nat} (h : ds.length = 4) : fl 4 ds = ds := by
  obtain ⟨a, b, c, d, rfl⟩ := four h
  rfl
structure PtRel (w : World) (L sub : Nat) (cs : List Nat) (B R N : Nat) (i : Value) (wr : World) : Prop where
  ex : ∃ k : Nat, k ≤ 4 ∧ i = .int .i64 k ∧ Row wr N 42 (rcs sub (fl k (mvd L cs sub)))
  rb : Row wr B 42 (rcs L cs)
  rr : Row wr R 42 (rcs 0 [0, 0, 0, 0])
  bel : Below w.heap.size w wr
/-- The places are apart. -/
structure Apart (w : World) (B R N : Nat) : Prop where
  b : w.heap.size ≤ B
  r : w.heap.size ≤ R
  n : w.heap.size ≤ N
  br : B ≠ R
  bn : B ≠ N
  rn : R ≠ N
end Go.Proofs.YtffpifljeeikfaaGreatDoor.Rg

/-
  Operations of whatever guard, once they are wanted; a struct written out, run; the contract of layer 6's awake over this seat's translation.
-/
namespace Go.Proofs.YtffpifljeeikfaaGreatDoor.Rg
open Go.ChangeShapes Go.WideShapes Go.ChangeAt Go.RowKit Go.Proofs.YtffpifljeeikfaaGreatDoor.Mem Go.Proofs.YtffpifljeeikfaaGreatDoor.Bt
set_option linter.unusedVariables false
set_option linter.unusedSimpArgs false

theorem small_of (cs : List Nat) (h : (cs.all fun x => decide (x ≤ 3)) = true) : Small cs := fun i hi => by
  by_cases hl : i < cs.length
  · rw [List.getD_eq_getElem?_getD, List.getElem?_eq_getElem hl]
    exact of_decide_eq_true (List.all_eq_true.1 h _ (List.getElem_mem hl))
  · rw [List.getD_eq_getElem?_getD, List.getElem?_eq_none (by omega)]; exact Nat.zero_le _
theorem awk_put0 (w : World) : Calls Tryz.prog 70 #[.agg (rcs 0 [1, 3, 3, 3]).toArray, .int .u32 0] w fun e w' => e = .returned (.tuple #[.agg (rcs 0 [2, 3, 3, 3]).toArray, .int .i64 0]) ∧ Below w.heap.size w w' :=
  put_ok 0 0 [1, 3, 3, 3] w (by decide) (by decide) (by decide) rfl
theorem awk_put2 (w : World) : Calls Tryz.prog 70 #[.agg (rcs 0 [2, 3, 3, 3]).toArray, .int .u32 2] w fun e w' => e = .returned (.tuple #[.agg (rcs 2 [2, 0, 1, 3]).toArray, .int .i64 0]) ∧ Below w.heap.size w w' :=
  put_ok 0 2 [2, 3, 3, 3] w (by decide) (by decide) (by decide) rfl
theorem awk_put1 (w : World) : Calls Tryz.prog 70 #[.agg (rcs 2 [2, 0, 1, 3]).toArray, .int .u32 1] w fun e w' => e = .returned (.tuple #[.agg (rcs 0 [0, 0, 0, 0]).toArray, .int .i64 6]) ∧ Below w.heap.size w w' :=
  put_early 2 1 [2, 0, 1, 3] w (by decide) rfl
theorem awk_before (w : World) : Calls Tryz.prog 53 #[.agg (rcs 0 [2, 3, 3, 3]).toArray, .int .u32 2] w fun e w' => e = .returned (.tuple #[.int .u32 8, .int .i64 0]) ∧ Below w.heap.size w w' :=
  before_any 0 2 [2, 3, 3, 3] w (by decide) (by decide) (small_of _ (by decide)) rfl
theorem awk_sum (w : World) : Calls Tryz.prog 73 #[.agg (rcs 2 [2, 0, 1, 3]).toArray] w fun e w' => e = .returned (.int .u32 6) ∧ Below w.heap.size w w' :=
  sum_any 2 [2, 0, 1, 3] w (small_of _ (by decide)) rfl
end Go.Proofs.YtffpifljeeikfaaGreatDoor.Rg

/-
  RingTells, walked: whether any ring may be, how many blocks it has, and any window ahead, and the ring with one block more are as the document says. Over this seat's translation.
-/
namespace Go.Proofs.YtffpifljeeikfaaGreatDoor.Rg
open Go.ChangeShapes Go.WideShapes Go.ChangeAt Go.RowKit Go.Proofs.YtffpifljeeikfaaGreatDoor.Mem Go.Proofs.YtffpifljeeikfaaGreatDoor.Bt
set_option linter.unusedVariables false
set_option linter.unusedSimpArgs false

/-- What Put answers. -/
def putL (L : Nat) (cs : List Nat) (sub : Nat) : Nat := if L ≤ sub ∧ atG L cs sub < 3 then sub else 0
def putC (L : Nat) (cs : List Nat) (sub : Nat) : List Nat := if L ≤ sub ∧ atG L cs sub < 3 then putd L cs sub else [0, 0, 0, 0]
def putE (L : Nat) (cs : List Nat) (sub : Nat) : Int := if sub < L then 6 else if atG L cs sub < 3 then 0 else 11
theorem putC_len (L : Nat) (cs : List Nat) (sub : Nat) : (putC L cs sub).length = 4 := by unfold putC; split; exact putd_len _ _ _; rfl
theorem put_any (L sub : Nat) (cs : List Nat) (w : World) (hb : sub < 4294967296) (hs : Small cs) (hl : cs.length = 4) :
    Calls Tryz.prog 70 #[.agg (rcs L cs).toArray, .int .u32 (sub : Int)] w fun e w' => e = .returned (.tuple #[.agg (rcs (putL L cs sub) (putC L cs sub)).toArray, .int .i64 (putE L cs sub)]) ∧ Below w.heap.size w w' := by
  unfold putL putC putE
  rcases Nat.lt_or_ge sub L with h | h
  · rw [if_neg (by omega), if_neg (by omega), if_pos h]
    exact put_early L sub cs w h hl
  · rw [if_neg (show ¬ sub < L by omega)]
    rcases Nat.lt_or_ge (atG L cs sub) 3 with h3 | h3
    · rw [if_pos ⟨h, h3⟩, if_pos ⟨h, h3⟩, if_pos h3]
      exact put_ok L sub cs w h hb h3 hl
    · have := atG_small (L := L) hs (sub : Int)
      rw [if_neg (by omega), if_neg (by omega), if_neg (by omega)]
      exact put_full L sub cs w h hb (by omega) hl
end Go.Proofs.YtffpifljeeikfaaGreatDoor.Rg

/-
  RingFades, walked: the further off a sub-window, the fewer blocks are ahead of it. Over this seat's translation.
-/
namespace Go.Proofs.YtffpifljeeikfaaGreatDoor.Rg
open Go.ChangeShapes Go.WideShapes Go.ChangeAt Go.RowKit Go.Proofs.YtffpifljeeikfaaGreatDoor.Mem Go.Proofs.YtffpifljeeikfaaGreatDoor.Bt
set_option linter.unusedVariables false
set_option linter.unusedSimpArgs false

theorem befN_at {L m : Nat} {cs : List Nat} (h : L < m) : befN L cs m = atG L cs ((m : Int) - 1) + atG L cs ((m : Int) - 2) + atG L cs ((m : Int) - 3) + atG L cs ((m : Int) - 4) := by
  unfold befN
  rw [if_neg (by omega), sumc_mvd]
  have e1 : ((m - 1 : Nat) : Int) = (m : Int) - 1 := by omega
  rw [e1, show (m : Int) - 1 - 1 = (m : Int) - 2 by omega, show (m : Int) - 1 - 2 = (m : Int) - 3 by omega, show (m : Int) - 1 - 3 = (m : Int) - 4 by omega]
theorem befN_next {L : Nat} {cs : List Nat} (hl : cs.length = 4) : befN L cs (L + 1) = sumc cs := by
  unfold befN
  rw [if_neg (by omega), Nat.add_sub_cancel, mvd_self hl]
theorem befN_less {L m : Nat} {cs : List Nat} (h : L < m) : befN L cs (m + 1) ≤ befN L cs m := by
  rw [befN_at h, befN_at (by omega), atG_out (g := ((m + 1 : Nat) : Int) - 1) (by omega)]
  rw [show ((m + 1 : Nat) : Int) - 2 = (m : Int) - 1 by omega, show ((m + 1 : Nat) : Int) - 3 = (m : Int) - 2 by omega, show ((m + 1 : Nat) : Int) - 4 = (m : Int) - 3 by omega]
  omega
theorem befN_none {L m : Nat} {cs : List Nat} (h : L + 4 < m) : befN L cs m = 0 := by
  rw [befN_at (by omega), atG_out (by omega), atG_out (by omega), atG_out (by omega), atG_out (by omega)]
theorem befN_le {L m : Nat} {cs : List Nat} (hs : Small cs) : befN L cs m ≤ 12 := by
  unfold befN
  split
  · omega
  · exact sumc_small (mvd_small hs)
theorem befE_ok {L m : Nat} (h : L < m) : befE L m = 0 := if_neg (by omega)
structure FdRel (w : World) (L : Nat) (cs : List Nat) (B : Nat) (i n : Value) (wr : World) : Prop where
  ex : ∃ k : Nat, 2 ≤ k ∧ k ≤ 9 ∧ i = .int .u32 (k : Int) ∧ n = .int .u32 (befN L cs (L + k - 1) : Nat)
  row : Row wr B 27 (rcs L cs)
  bel : Below w.heap.size w wr
end Go.Proofs.YtffpifljeeikfaaGreatDoor.Rg

/-
  '!=' between integers and the load of one number, run; the document's Later and Sub over Nat; a slot's sub-window (package slot). Over this seat's translation.
-/
namespace Go.Proofs.YtffpifljeeikfaaGreatDoor.Rg
open Go.ChangeShapes Go.WideShapes Go.ChangeAt Go.RowKit Go.Proofs.YtffpifljeeikfaaGreatDoor.Mem Go.Proofs.YtffpifljeeikfaaGreatDoor.Bt
set_option linter.unusedVariables false
set_option linter.unusedSimpArgs false

theorem sub_nat (s : Nat) (w : World) (hb : s < 4294967296) :
    Calls Tryz.prog 37 #[.int .u32 (s : Int)] w fun e w' => e = .returned (.int .u32 ((s / 3 : Nat) : Int)) ∧ w = w' :=
  (Slot.rsub_any (s : Int) w (by omega) (by omega)).mono fun e w' h => ⟨by rw [h.1]; exact congrArg (fun n => Ending.returned (.int .u32 n)) (by omega), h.2⟩
theorem run_op_load32 {o : Oper} {a : Act} (x : Operand) (ho : o.op = .load 24 x) (p : Addr) (hx : a.eval x = .pointer (some p)) (v : Value) {w : World} (hc : w.cell? p = some v) : (execOp a.eval o).run Tryz.prog w = .ok (.value v) w :=
  run_op_load1 24 x ho (.int .u32) (by kernel_rfl) rfl p hx v hc
theorem subB_any (n : Nat) (w : World) (h1 : n < 4294967296) :
    Calls Tryz.prog 71 #[.int .u32 (n : Int)] w fun e w' => e = .returned (.int .u32 ((n / 3 : Nat) : Int)) ∧ Below w.heap.size w w' := by
  have C := partedB_any n 3 w h1 (by omega) (by omega)
  go_enter Tryz.func71, Tryz.ntmps71
  go_wp2_with fail
  refine C.mono ?_
  rintro e w1 ⟨rfl, g1⟩
  go_wp2
  go_ret
  exact ⟨congrArg (fun n => Ending.returned (.int .u32 n)) (by omega), g1⟩
theorem rsubB_any (n : Nat) (w : World) (h1 : n < 4294967296) :
    Calls Tryz.prog 37 #[.int .u32 (n : Int)] w fun e w' => e = .returned (.int .u32 ((n / 3 : Nat) : Int)) ∧ Below w.heap.size w w' :=
  (sub_nat n w h1).mono fun e w' h => ⟨h.1, h.2 ▸ Below.refl _ _⟩
end Go.Proofs.YtffpifljeeikfaaGreatDoor.Rg
