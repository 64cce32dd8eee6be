/-
  Rings as cells: a number and four counts; smaller and larger of two numbers; 'clear' of a slice; '==' between rings; a sub-window's ring place (package slot). Over this seat's translation.
-/
import Derived.Test.YtbbmjjphkmjnbaaBytes
import Derived.Test.YtbbmjjphkmjnbaaHeld
import Derived.Test.YtbbmjjphkmjnbaaMemRows
import Derived.Test.YtbbmjjphkmjnbaaMemMore
import Derived.Test.YtbbmjjphkmjnbaaBuild
import Derived.Lib.SliceRun
import Derived.Laws.StructEq
namespace Go.Proofs.Ytbbmjjphkmjnbaa.Rg
open Go.ChangeShapes Go.WideShapes Go.ChangeAt Go.RowKit Go.Proofs.Ytbbmjjphkmjnbaa.Mem Go.Proofs.Ytbbmjjphkmjnbaa.Bt
set_option linter.unusedVariables false

/-- A ring's cells. -/
def rcs (L : Nat) (cs : List Nat) : List Value := .int .u32 (L : Int) :: u32s cs
theorem rcs_len {L : Nat} {cs : List Nat} (h : cs.length = 4) : (rcs L cs).length = 5 := by unfold rcs; rw [List.length_cons, u32s_length, h]
theorem rcs_one (L : Nat) (cs : List Nat) : OneCells (rcs L cs) := by
  intro v hv
  unfold rcs at hv
  rcases List.mem_cons.1 hv with rfl | hv
  · rfl
  · exact u32s_one _ v hv
theorem rcs_get0 (L : Nat) (cs : List Nat) : (rcs L cs)[0]? = some (.int .u32 (L : Int)) := rfl
theorem rcs_get {L : Nat} {cs : List Nat} {i : Nat} (h : i < cs.length) : (rcs L cs)[1 + i]? = some (.int .u32 ((cs.getD i 0 : Nat) : Int)) := by
  unfold rcs
  rw [Nat.add_comm, List.getElem?_cons_succ]
  exact u32s_get h
theorem rcs_set0 (L n : Nat) (cs : List Nat) : (rcs L cs).set 0 (.int .u32 (n : Int)) = rcs n cs := rfl
theorem rcs_set (L i n : Nat) (cs : List Nat) : (rcs L cs).set (1 + i) (.int .u32 (n : Int)) = rcs L (cs.set i n) := by
  unfold rcs
  rw [Nat.add_comm, List.set_cons_succ]
  unfold u32s
  rw [List.map_set]
theorem rcs_inj {L M : Nat} {cs ds : List Nat} (h : rcs L cs = rcs M ds) : L = M ∧ cs = ds := by
  unfold rcs u32s at h
  obtain ⟨h1, h2⟩ := List.cons.inj h
  refine ⟨by injection h1 with _ h; omega, ?_⟩
  have := congrArg (List.map (fun v : Value => match v with | .int _ n => n.toNat | _ => 0)) h2
  simpa [List.map_map, Function.comp_def] using this
theorem four {cs : List Nat} (h : cs.length = 4) : ∃ a b c d, cs = [a, b, c, d] := by
  match cs, h with
  | [a, b, c, d], _ => exact ⟨a, b, c, d, rfl⟩
theorem z_ring : Mem.Zero Try.prog 25 (rcs 0 [0, 0, 0, 0]) := by unfold Mem.Zero; kernel_rfl
theorem sz_ring : Sized Try.prog 25 5 := ⟨.struct (Try.prog.fieldsOf 25), by kernel_rfl, rfl, by kernel_rfl⟩
theorem sz_ring' {L : Nat} {cs : List Nat} (h : cs.length = 4) : Sized Try.prog 25 (rcs L cs).length := by rw [rcs_len h]; exact sz_ring
theorem sz_arr : Sized Try.prog 23 4 := ⟨.array 4 22, by kernel_rfl, rfl, by kernel_rfl⟩
theorem sz_arr' {cs : List Nat} (h : cs.length = 4) : Sized Try.prog 23 (u32s cs).length := by rw [u32s_length, h]; exact sz_arr
theorem z_rref : Mem.Zero Try.prog 31 (rcs 0 [0, 0, 0, 0]) := by unfold Mem.Zero; kernel_rfl
theorem sz_rref : Sized Try.prog 31 5 := ⟨.struct (Try.prog.fieldsOf 31), by kernel_rfl, rfl, by kernel_rfl⟩
theorem sz_rref' {L : Nat} {cs : List Nat} (h : cs.length = 4) : Sized Try.prog 31 (rcs L cs).length := by rw [rcs_len h]; exact sz_rref
theorem row_all {w : World} {b : Nat} {t : TypeId} {cs : List Value} (h : Row w b t cs) : w.rangeAt b 0 cs := h.range 0 _ (fun j v hj => by rw [Nat.zero_add]; exact hj)
theorem row_counts {w : World} {b : Nat} {t : TypeId} {L : Nat} {cs : List Nat} (h : Row w b t (rcs L cs)) : w.rangeAt b 1 (u32s cs) := h.range 1 _ (fun j v hj => by unfold rcs; rw [Nat.add_comm, List.getElem?_cons_succ]; exact hj)
theorem only_size {w w' : World} {b : Nat} (h : Only b w w') : w.heap.size ≤ w'.heap.size := h.size

section
variable {P : Program} {ops : Array Oper} {rest : List Oper} {o : Oper} {a : Act} {w : World} {Q : Exit → Act → World → Prop}
/-- The smaller of two numbers. -/
theorem arm_min (hgd : o.guard = none) (x y : Operand) (ats : Array TypeId) (ho : o.op = .call { callee := .builtin .min, args := #[x, y], argTypes := ats }) (k : IntKind) (m n : Int) (hx : a.eval x = .int k m) (hy : a.eval y = .int k n)
    (r : Nat) (hr : (if n < m then n else m) = (r : Int)) (h : wpList P ops Q rest (a.put o.dst (.int k (r : Int))) w) : wpList P ops Q (o :: rest) a w := by
  obtain ⟨dst, op, ty, pos, after, guard⟩ := o
  simp only at hgd ho
  subst hgd ho
  refine wpList_plain rfl fun K hK => ?_
  unfold Oper.wp
  have he : (execOp a.eval { dst := dst, op := Op.call { callee := .builtin .min, args := #[x, y], argTypes := ats }, type := ty, pos := pos, after := after, guard := none }).run P w = .ok (.value (.int k (r : Int))) w := by
    rw [BigFrame.execOp_builtin, BigFrame.builtin_min]
    simp only [List.map_toArray, List.map_cons, List.map_nil, hx, hy, Sem.run_bind, Builtin.min_, List.foldlM_cons, List.foldlM_nil, Builtin.min2, hr, Result.andThen_ok, Sem.run_pure]
  rw [he]
  exact hK _ _ h
/-- The larger of two numbers. -/
theorem arm_max (hgd : o.guard = none) (x y : Operand) (ats : Array TypeId) (ho : o.op = .call { callee := .builtin .max, args := #[x, y], argTypes := ats }) (k : IntKind) (m n : Int) (hx : a.eval x = .int k m) (hy : a.eval y = .int k n)
    (r : Nat) (hr : (if m < n then n else m) = (r : Int)) (h : wpList P ops Q rest (a.put o.dst (.int k (r : Int))) w) : wpList P ops Q (o :: rest) a w := by
  obtain ⟨dst, op, ty, pos, after, guard⟩ := o
  simp only at hgd ho
  subst hgd ho
  refine wpList_plain rfl fun K hK => ?_
  unfold Oper.wp
  have he : (execOp a.eval { dst := dst, op := Op.call { callee := .builtin .max, args := #[x, y], argTypes := ats }, type := ty, pos := pos, after := after, guard := none }).run P w = .ok (.value (.int k (r : Int))) w := by
    rw [BigFrame.execOp_builtin, BigFrame.builtin_max]
    simp only [List.map_toArray, List.map_cons, List.map_nil, hx, hy, Sem.run_bind, Builtin.max_, List.foldlM_cons, List.foldlM_nil, Builtin.max2, hr, Result.andThen_ok, Sem.run_pure]
  rw [he]
  exact hK _ _ h
/-- 'clear(s)' of numbers of a row. -/
theorem arm_clear (hgd : o.guard = none) (x : Operand) (t : TypeId) (ho : o.op = .call { callee := .builtin .clear, args := #[x], argTypes := #[t] }) (e : TypeId) (hu : P.underlying t = some (.slice e)) (z : Value) (hz : ∀ w, (zeroValue e).run P w = .ok z w) (hzc : z.cells = #[z]) (hz1 : z.oneCell' = true)
    (b off n c : Nat) (hx : a.eval x = .slice (some ⟨b, off, none⟩) (n + 1) c) (u : TypeId) (cs : List Value) (hr : Row w b u cs) (hf : off + (n + 1) ≤ cs.length)
    (h : ∀ w2, Row w2 b u (lay cs off (List.replicate (n + 1) z)) → Only b w w2 → Hid (w2.heap.size = w.heap.size) → wpList P ops Q rest (a.put o.dst (.tuple #[])) w2) : wpList P ops Q (o :: rest) a w := by
  obtain ⟨dst, op, ty, pos, after, guard⟩ := o
  simp only at hgd ho
  subst hgd ho
  refine wpList_plain rfl fun K hK => ?_
  have hzl : (Builtin.zeroCells z.cells (n + 1)).toList = List.replicate (n + 1) z := by
    rw [hzc]
    simp [Builtin.zeroCells]
    apply List.ext_getElem
    · simp
    · intro i h1 h2
      simp [Nat.mod_one]
  have hst := run_storeCells_at P b off u (List.replicate (n + 1) z) 0 cs.toArray w hr (by simpa using hf) (by intro v hv; rw [List.eq_of_mem_replicate hv]; exact hz1)
  simp only [Nat.add_zero] at hst
  unfold Oper.wp
  have he : (execOp a.eval { dst := dst, op := Op.call { callee := .builtin .clear, args := #[x], argTypes := #[t] }, type := ty, pos := pos, after := after, guard := none }).run P w = .ok (.value (.tuple #[])) (w.setRow b (lay cs off (List.replicate (n + 1) z)).toArray) := by
    rw [BigFrame.execOp_builtin, BigFrame.builtin_clear]
    simp only [List.map_toArray, List.map_cons, List.map_nil, hx, Sem.run_bind, Sem.run_pure]
    simp [Builtin.clear_, run_underlying hu, hz, hzl, hst, lay, Result.andThen]
  rw [he]
  exact hK _ _ (h _ (row_setRow hr _) (Only.setRow _ _ _) (by simp [Hid]))
end

/-! ### '==' between rings. -/
theorem part_u32s (xs : List Nat) (i : Nat) (hi : i < xs.length) (w : World) : (part 22 (u32s xs).toArray i).run Try.prog w = .ok (.int .u32 ((xs.getD i 0 : Nat) : Int)) w := by
  have hu : Try.prog.underlying 22 = some (.int .u32) := by kernel_rfl
  have hg := u32s_get hi
  simp [part, isAgg, run_underlying hu, hg]
theorem eq_num (d m n : Nat) (w : World) : (Op.equalIn (d + 1) 22 (.int .u32 (m : Int)) (.int .u32 (n : Int))).run Try.prog w = .ok (decide (m = n)) w := by
  have hu : Try.prog.underlying 22 = some (.int .u32) := by kernel_rfl
  rw [run_equalIn_int w d 22 .u32 .u32 m n hu]
  congr 1
  by_cases h : m = n
  · simp [h]
  · have : ((m : Int) == (n : Int)) = false := beq_eq_false_iff_ne.2 (by omega)
    rw [this]; simp [h]
theorem getD_ext {xs ys : List Nat} (h : xs.length = ys.length) (hg : ∀ i, i < xs.length → xs.getD i 0 = ys.getD i 0) : xs = ys := by
  apply List.ext_getElem h
  intro i h1 h2
  have := hg i h1
  rwa [List.getD_eq_getElem?_getD, List.getD_eq_getElem?_getD, List.getElem?_eq_getElem h1, List.getElem?_eq_getElem h2] at this
theorem eq_arr (d : Nat) (xs ys : List Nat) (hx : xs.length = 4) (hy : ys.length = 4) (w : World) :
    (Op.equalIn (d + 2) 23 (.agg (u32s xs).toArray) (.agg (u32s ys).toArray)).run Try.prog w = .ok (decide (xs = ys)) w := by
  have hu : Try.prog.underlying 23 = some (.array 4 22) := by kernel_rfl
  have hs : (sizeOf 22).run Try.prog w = .ok 1 w := by kernel_rfl
  unfold Op.equalIn
  simp only [Sem.run_bind, run_underlying hu, Result.andThen_ok, hs]
  have key : ∀ l : List Nat, (∀ i ∈ l, i < 4) → (forIn (m := Sem) l ((none : Option Bool), ()) fun i __s => do
      let a ← part 22 (u32s xs).toArray (i * 1)
      let b ← part 22 (u32s ys).toArray (i * 1)
      let r ← Op.equalIn (d + 1) 22 a b
      if (!r) = true then pure (ForInStep.done (some false, ())) else pure (ForInStep.yield (none, ()))).run Try.prog w = .ok (if ∀ i ∈ l, xs.getD i 0 = ys.getD i 0 then (none, ()) else (some false, ())) w := by
    intro l
    induction l with
    | nil => intro _; simp
    | cons i l ih =>
      intro h
      have hi := h i (by simp)
      rw [List.forIn_cons]
      simp only [Sem.run_bind, Nat.mul_one, part_u32s xs i (by omega) w, part_u32s ys i (by omega) w, Result.andThen_ok, eq_num]
      by_cases he : xs.getD i 0 = ys.getD i 0
      · simp only [he, decide_true, Bool.not_true, Bool.false_eq_true, if_false, Sem.run_pure, Result.andThen_ok]
        have := ih (fun j hj => h j (by simp [hj]))
        simp only [Nat.mul_one] at this
        rw [this]
        simp only [List.mem_cons, forall_eq_or_imp, he, true_and]
      · simp only [he, decide_false, Bool.not_false, if_true, Sem.run_pure, Result.andThen_ok]
        rw [if_neg (fun hc => he (hc i (by simp)))]
  rw [Std.Legacy.Range.forIn_eq_forIn_range']
  rw [key _ (fun i hi => by simp [Std.Legacy.Range.size] at hi; omega)]
  by_cases he : xs = ys
  · subst he; simp
  · have hne : ¬ ∀ i ∈ List.range' 0 (Std.Legacy.Range.size ⟨0, 4, 1, by decide⟩) 1, xs.getD i 0 = ys.getD i 0 := fun hc => he (getD_ext (by omega) (fun i hi => hc i (by simp [Std.Legacy.Range.size]; omega)))
    rw [if_neg hne]
    simp [he]
theorem part_num (L : Nat) (cs : List Nat) (w : World) : (part 22 (rcs L cs).toArray 0).run Try.prog w = .ok (.int .u32 (L : Int)) w := by
  have hu : Try.prog.underlying 22 = some (.int .u32) := by kernel_rfl
  simp [part, isAgg, run_underlying hu, rcs]
theorem part_arr (L : Nat) (cs : List Nat) (h : cs.length = 4) (w : World) : (part 23 (rcs L cs).toArray 1).run Try.prog w = .ok (.agg (u32s cs).toArray) w := by
  have hu : Try.prog.underlying 23 = some (.array 4 22) := by kernel_rfl
  have hs : (sizeOf 23).run Try.prog w = .ok 4 w := by kernel_rfl
  obtain ⟨a, b, c, d, rfl⟩ := four h
  simp [part, isAgg, run_underlying hu, rcs, u32s]
/-- The two fields of a ring. -/
structure Fields (fs : List Field) : Prop where
  ex : ∃ f g : Field, fs = [f, g] ∧ f.name ≠ "_" ∧ f.type = 22 ∧ f.offset = 0 ∧ g.name ≠ "_" ∧ g.type = 23 ∧ g.offset = 1
theorem fields_of {fs : List Field} (h : fs.map (fun f => (f.name, f.type, f.offset)) = [("Last", 22, 0), ("Counts", 23, 1)]) : Fields fs := by
  have hl : fs.length = 2 := by have := congrArg List.length h; simpa using this
  match fs, hl with
  | [f, g], _ =>
    simp only [List.map_cons, List.map_nil, List.cons.injEq, Prod.mk.injEq, and_true] at h
    obtain ⟨⟨h1, h2, h3⟩, h4, h5, h6⟩ := h
    exact ⟨f, g, rfl, by rw [h1]; decide, h2, h3, by rw [h4]; decide, h5, h6⟩
theorem fields_ring : Fields (Try.prog.fieldsOf 25).toList := fields_of (by kernel_rfl)
theorem fields_rref : Fields (Try.prog.fieldsOf 31).toList := fields_of (by kernel_rfl)
theorem eq_ringF (t : TypeId) (hU : Try.prog.underlying t = some (.struct (Try.prog.fieldsOf t))) (hp : Try.prog.stoodInHeld t = false) (hF : Fields (Try.prog.fieldsOf t).toList) (d L M : Nat) (xs ys : List Nat) (hx : xs.length = 4) (hy : ys.length = 4) (w : World) :
    (Op.equalIn (d + 3) t (.agg (rcs L xs).toArray) (.agg (rcs M ys).toArray)).run Try.prog w = .ok (decide (L = M ∧ xs = ys)) w := by
  rw [run_equalIn_struct w (d + 2) t _ _ hU hp]
  obtain ⟨f, g, hfs, n1, t1, o1, n2, t2, o2⟩ := hF.ex
  rw [hfs]
  simp only [Op.eqFields, n1, n2, ne_eq, not_false_eq_true, if_true, t1, t2, o1, o2, Sem.run_bind, part_num, Result.andThen_ok, eq_num]
  by_cases h1 : L = M
  · by_cases h2 : xs = ys
    · simp [h1, h2, part_arr _ _ hy, eq_arr d ys ys hy hy]
    · simp [h1, h2, part_arr _ _ hx, part_arr _ _ hy, eq_arr d xs ys hx hy]
  · simp [h1]
theorem eq_ring (d L M : Nat) (xs ys : List Nat) (hx : xs.length = 4) (hy : ys.length = 4) (w : World) :
    (Op.equalIn (d + 3) 25 (.agg (rcs L xs).toArray) (.agg (rcs M ys).toArray)).run Try.prog w = .ok (decide (L = M ∧ xs = ys)) w :=
  eq_ringF _ (by kernel_rfl) (by kernel_rfl) fields_ring d L M xs ys hx hy w
theorem eq_rref (d L M : Nat) (xs ys : List Nat) (hx : xs.length = 4) (hy : ys.length = 4) (w : World) :
    (Op.equalIn (d + 3) 31 (.agg (rcs L xs).toArray) (.agg (rcs M ys).toArray)).run Try.prog w = .ok (decide (L = M ∧ xs = ys)) w :=
  eq_ringF _ (by kernel_rfl) (by kernel_rfl) fields_rref d L M xs ys hx hy w
section
variable {o : Oper} {a : Act}
theorem run_op_eqlR (x y : Operand) (t' : TypeId) (ho : o.op = .binOp .eql 25 x y t') (L M : Nat) (xs ys : List Nat) (hlx : xs.length = 4) (hly : ys.length = 4) (hx : a.eval x = .agg (rcs L xs).toArray) (hy : a.eval y = .agg (rcs M ys).toArray) (w : World) :
    (execOp a.eval o).run Try.prog w = .ok (.value (.bool (decide (L = M ∧ xs = ys)))) w := by
  unfold execOp
  simp only [ho, hx, hy, Sem.run_bind, run_eqGuard_agg w _ _ _ _ _ _ (show Try.prog.eqGuardType Try.prog.depth 25 = false by kernel_rfl), Result.andThen_ok, binOp, Op.equal, Op.maxDepth, eq_ring 9997 L M xs ys hlx hly w, Sem.run_pure]
theorem run_op_neqR (x y : Operand) (t' : TypeId) (ho : o.op = .binOp .neq 25 x y t') (L M : Nat) (xs ys : List Nat) (hlx : xs.length = 4) (hly : ys.length = 4) (hx : a.eval x = .agg (rcs L xs).toArray) (hy : a.eval y = .agg (rcs M ys).toArray) (w : World) :
    (execOp a.eval o).run Try.prog w = .ok (.value (.bool (!decide (L = M ∧ xs = ys)))) w := by
  unfold execOp
  simp only [ho, hx, hy, Sem.run_bind, run_eqGuard_agg w _ _ _ _ _ _ (show Try.prog.eqGuardType Try.prog.depth 25 = false by kernel_rfl), Result.andThen_ok, binOp, Op.equal, Op.maxDepth, eq_ring 9997 L M xs ys hlx hly w, Sem.run_pure]
theorem run_op_eqlRR (x y : Operand) (t' : TypeId) (ho : o.op = .binOp .eql 31 x y t') (L M : Nat) (xs ys : List Nat) (hlx : xs.length = 4) (hly : ys.length = 4) (hx : a.eval x = .agg (rcs L xs).toArray) (hy : a.eval y = .agg (rcs M ys).toArray) (w : World) :
    (execOp a.eval o).run Try.prog w = .ok (.value (.bool (decide (L = M ∧ xs = ys)))) w := by
  unfold execOp
  simp only [ho, hx, hy, Sem.run_bind, run_eqGuard_agg w _ _ _ _ _ _ (show Try.prog.eqGuardType Try.prog.depth 31 = false by kernel_rfl), Result.andThen_ok, binOp, Op.equal, Op.maxDepth, eq_rref 9997 L M xs ys hlx hly w, Sem.run_pure]
end

/-! ### A sub-window's ring place. -/
theorem partedB_any (n b : Nat) (w : World) (h1 : n < 4294967296) (b0 : 1 ≤ b) (b1 : b < 4294967296) :
    Calls Try.prog 38 #[.int .u32 (n : Int), .int .u32 (b : Int)] w fun e w' => e = .returned (.tuple #[.int .u32 ((n : Int) / (b : Int)), .int .u32 ((n : Int) % (b : Int))]) ∧ Below w.heap.size w w' := by
  have hz : ((b : Int) != 0) = true := bne_iff_ne.2 (by omega)
  have hz2 : ((b : Int) == 0) = false := beq_eq_false_iff_ne.2 (by omega)
  have hd0 : 0 ≤ (n : Int) / (b : Int) := Int.ediv_nonneg (by omega) (by omega)
  have hd1 : (n : Int) / (b : Int) ≤ 4294967295 := Int.le_trans (Int.ediv_le_self (b : Int) (by omega)) (by omega)
  have hm0 : 0 ≤ (n : Int) % (b : Int) := Int.emod_nonneg (n : Int) (by omega)
  have hm1 : (n : Int) % (b : Int) ≤ 4294967295 := by have := Int.emod_lt_of_pos (n : Int) (by omega : 0 < (b : Int)); omega
  go_enter Try.func38, Try.ntmps38
  go_wp2_with fail
  go_quiet (fail)
  go_wp2
  go_ret2
  exact ⟨rfl, below_drewN _ _ _⟩
theorem ringB_any (n : Nat) (w : World) (h1 : n < 4294967296) :
    Calls Try.prog 37 #[.int .u32 (n : Int)] w fun e w' => e = .returned (.int .i64 ((n % 4 : Nat) : Int)) ∧ Below w.heap.size w w' := by
  have C := partedB_any n 4 w h1 (by omega) (by omega)
  go_enter Try.func37, Try.ntmps37
  go_wp2_with fail
  refine C.mono ?_
  rintro e w1 ⟨rfl, g1⟩
  go_wp2
  go_ret
  exact ⟨congrArg (fun n => Ending.returned (.int .i64 n)) (by omega), g1⟩
end Go.Proofs.Ytbbmjjphkmjnbaa.Rg
