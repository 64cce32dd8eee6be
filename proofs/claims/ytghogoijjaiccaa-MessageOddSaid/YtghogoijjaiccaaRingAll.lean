import Derived.Test.YtghogoijjaiccaaBytAll
import Derived.Test.YtghogoijjaiccaaMemAll
import Derived.Lib.SliceRun
import Derived.Laws.StructEq
import Derived.Test.YtghogoijjaiccaaNumAll
/-
  Rings as cells: a number and four counts; smaller and larger of two numbers; 'clear' of a slice; '==' between rings; a sub-window's ring place (package slot). Over this seat's translation.
-/
namespace Go.Proofs.Ytghogoijjaiccaa.Rg
open Go.ChangeShapes Go.WideShapes Go.ChangeAt Go.RowKit Go.Proofs.Ytghogoijjaiccaa.Mem Go.Proofs.Ytghogoijjaiccaa.Bt
set_option linter.unusedVariables false
set_option maxRecDepth 100000

/-- A ring's cells. -/
def rcs (L : Nat) (cs : List Nat) : List Value := .int .u32 (L : Int) :: u32s cs
theorem rcs_len {L : Nat} {cs : List Nat} (h : cs.length = 4) : (rcs L cs).length = 5 := by unfold rcs; rw [List.length_cons, u32s_length, h]
theorem rcs_one (L : Nat) (cs : List Nat) : OneCells (rcs L cs) := by
  intro v hv
  unfold rcs at hv
  rcases List.mem_cons.1 hv with rfl | hv
  · rfl
  · exact u32s_one _ v hv
theorem rcs_get0 (L : Nat) (cs : List Nat) : (rcs L cs)[0]? = some (.int .u32 (L : Int)) := rfl
theorem rcs_get {L : Nat} {cs : List Nat} {i : Nat} (h : i < cs.length) : (rcs L cs)[1 + i]? = some (.int .u32 ((cs.getD i 0 : Nat) : Int)) := by
  unfold rcs
  rw [Nat.add_comm, List.getElem?_cons_succ]
  exact u32s_get h
theorem rcs_set (L i n : Nat) (cs : List Nat) : (rcs L cs).set (1 + i) (.int .u32 (n : Int)) = rcs L (cs.set i n) := by
  unfold rcs
  rw [Nat.add_comm, List.set_cons_succ]
  unfold u32s
  rw [List.map_set]
theorem four {cs : List Nat} (h : cs.length = 4) : ∃ a b c d, cs = [a, b, c, d] := by
  match cs, h with
  | [a, b, c, d], _ => exact ⟨a, b, c, d, rfl⟩
theorem z_ring : Mem.Zero Try.prog 27 (rcs 0 [0, 0, 0, 0]) := by unfold Mem.Zero; kernel_rfl
theorem sz_ring : Sized Try.prog 27 5 := ⟨.struct (Try.prog.fieldsOf 27), by kernel_rfl, rfl, by kernel_rfl⟩
theorem sz_ring' {L : Nat} {cs : List Nat} (h : cs.length = 4) : Sized Try.prog 27 (rcs L cs).length := by rw [rcs_len h]; exact sz_ring
theorem sz_arr : Sized Try.prog 25 4 := ⟨.array 4 22, by kernel_rfl, rfl, by kernel_rfl⟩
theorem sz_arr' {cs : List Nat} (h : cs.length = 4) : Sized Try.prog 25 (u32s cs).length := by rw [u32s_length, h]; exact sz_arr
theorem z_rref : Mem.Zero Try.prog 49 (rcs 0 [0, 0, 0, 0]) := by unfold Mem.Zero; kernel_rfl
theorem sz_rref : Sized Try.prog 49 5 := ⟨.struct (Try.prog.fieldsOf 49), by kernel_rfl, rfl, by kernel_rfl⟩
theorem sz_rref' {L : Nat} {cs : List Nat} (h : cs.length = 4) : Sized Try.prog 49 (rcs L cs).length := by rw [rcs_len h]; exact sz_rref
theorem row_all {w : World} {b : Nat} {t : TypeId} {cs : List Value} (h : Row w b t cs) : w.rangeAt b 0 cs := h.range 0 _ (fun j v hj => by rw [Nat.zero_add]; exact hj)
theorem row_counts {w : World} {b : Nat} {t : TypeId} {L : Nat} {cs : List Nat} (h : Row w b t (rcs L cs)) : w.rangeAt b 1 (u32s cs) := h.range 1 _ (fun j v hj => by unfold rcs; rw [Nat.add_comm, List.getElem?_cons_succ]; exact hj)
section
variable {P : Program} {ops : Array Oper} {rest : List Oper} {o : Oper} {a : Act} {w : World} {Q : Exit → Act → World → Prop}
/-- The smaller of two numbers. -/
theorem arm_min (hgd : o.guard = none) (x y : Operand) (ats : Array TypeId) (ho : o.op = .call { callee := .builtin .min, args := #[x, y], argTypes := ats }) (k : IntKind) (m n : Int) (hx : a.eval x = .int k m) (hy : a.eval y = .int k n)
    (r : Nat) (hr : (if n < m then n else m) = (r : Int)) (h : wpList P ops Q rest (a.put o.dst (.int k (r : Int))) w) : wpList P ops Q (o :: rest) a w := by
  obtain ⟨dst, op, ty, pos, after, guard⟩ := o
  simp only at hgd ho
  subst hgd ho
  refine wpList_plain rfl fun K hK => ?_
  unfold Oper.wp
  have he : (execOp a.eval { dst := dst, op := Op.call { callee := .builtin .min, args := #[x, y], argTypes := ats }, type := ty, pos := pos, after := after, guard := none }).run P w = .ok (.value (.int k (r : Int))) w := by
    rw [BigFrame.execOp_builtin, BigFrame.builtin_min]
    simp only [List.map_toArray, List.map_cons, List.map_nil, hx, hy, Sem.run_bind, Builtin.min_, List.foldlM_cons, List.foldlM_nil, Builtin.min2, hr, Result.andThen_ok, Sem.run_pure]
  rw [he]
  exact hK _ _ h
/-- The larger of two numbers. -/
theorem arm_max (hgd : o.guard = none) (x y : Operand) (ats : Array TypeId) (ho : o.op = .call { callee := .builtin .max, args := #[x, y], argTypes := ats }) (k : IntKind) (m n : Int) (hx : a.eval x = .int k m) (hy : a.eval y = .int k n)
    (r : Nat) (hr : (if m < n then n else m) = (r : Int)) (h : wpList P ops Q rest (a.put o.dst (.int k (r : Int))) w) : wpList P ops Q (o :: rest) a w := by
  obtain ⟨dst, op, ty, pos, after, guard⟩ := o
  simp only at hgd ho
  subst hgd ho
  refine wpList_plain rfl fun K hK => ?_
  unfold Oper.wp
  have he : (execOp a.eval { dst := dst, op := Op.call { callee := .builtin .max, args := #[x, y], argTypes := ats }, type := ty, pos := pos, after := after, guard := none }).run P w = .ok (.value (.int k (r : Int))) w := by
    rw [BigFrame.execOp_builtin, BigFrame.builtin_max]
    simp only [List.map_toArray, List.map_cons, List.map_nil, hx, hy, Sem.run_bind, Builtin.max_, List.foldlM_cons, List.foldlM_nil, Builtin.max2, hr, Result.andThen_ok, Sem.run_pure]
  rw [he]
  exact hK _ _ h
end

theorem part_u32s (xs : List Nat) (i : Nat) (hi : i < xs.length) (w : World) : (part 22 (u32s xs).toArray i).run Try.prog w = .ok (.int .u32 ((xs.getD i 0 : Nat) : Int)) w := by
  have hu : Try.prog.underlying 22 = some (.int .u32) := by kernel_rfl
  have hg := u32s_get hi
  simp [part, isAgg, run_underlying hu, hg]
theorem eq_num (d m n : Nat) (w : World) : (Op.equalIn (d + 1) 22 (.int .u32 (m : Int)) (.int .u32 (n : Int))).run Try.prog w = .ok (decide (m = n)) w := by
  have hu : Try.prog.underlying 22 = some (.int .u32) := by kernel_rfl
  rw [run_equalIn_int w d 22 .u32 .u32 m n hu]
  congr 1
  by_cases h : m = n
  · simp [h]
  · have : ((m : Int) == (n : Int)) = false := beq_eq_false_iff_ne.2 (by omega)
    rw [this]; simp [h]
theorem getD_ext {xs ys : List Nat} (h : xs.length = ys.length) (hg : ∀ i, i < xs.length → xs.getD i 0 = ys.getD i 0) : xs = ys := by
  apply List.ext_getElem h
  intro i h1 h2
  have := hg i h1
  rwa [List.getD_eq_getElem?_getD, List.getD_eq_getElem?_getD, List.getElem?_eq_getElem h1, List.getElem?_eq_getElem h2] at this
theorem eq_arr (d : Nat) (xs ys : List Nat) (hx : xs.length = 4) (hy : ys.length = 4) (w : World) :
    (Op.equalIn (d + 2) 25 (.agg (u32s xs).toArray) (.agg (u32s ys).toArray)).run Try.prog w = .ok (decide (xs = ys)) w := by
  have hu : Try.prog.underlying 25 = some (.array 4 22) := by kernel_rfl
  have hs : (sizeOf 22).run Try.prog w = .ok 1 w := by kernel_rfl
  unfold Op.equalIn
  simp only [Sem.run_bind, run_underlying hu, Result.andThen_ok, hs]
  have key : ∀ l : List Nat, (∀ i ∈ l, i < 4) → (forIn (m := Sem) l ((none : Option Bool), ()) fun i __s => do
      let a ← part 22 (u32s xs).toArray (i * 1)
      let b ← part 22 (u32s ys).toArray (i * 1)
      let r ← Op.equalIn (d + 1) 22 a b
      if (!r) = true then pure (ForInStep.done (some false, ())) else pure (ForInStep.yield (none, ()))).run Try.prog w = .ok (if ∀ i ∈ l, xs.getD i 0 = ys.getD i 0 then (none, ()) else (some false, ())) w := by
    intro l
    induction l with
    | nil => intro _; simp
    | cons i l ih =>
      intro h
      have hi := h i (by simp)
      rw [List.forIn_cons]
      simp only [Sem.run_bind, Nat.mul_one, part_u32s xs i (by omega) w, part_u32s ys i (by omega) w, Result.andThen_ok, eq_num]
      by_cases he : xs.getD i 0 = ys.getD i 0
      · simp only [he, decide_true, Bool.not_true, Bool.false_eq_true, if_false, Sem.run_pure, Result.andThen_ok]
        have := ih (fun j hj => h j (by simp [hj]))
        simp only [Nat.mul_one] at this
        rw [this]
        simp only [List.mem_cons, forall_eq_or_imp, he, true_and]
      · simp only [he, decide_false, Bool.not_false, if_true, Sem.run_pure, Result.andThen_ok]
        rw [if_neg (fun hc => he (hc i (by simp)))]
  rw [Std.Legacy.Range.forIn_eq_forIn_range']
  rw [key _ (fun i hi => by simp [Std.Legacy.Range.size] at hi; omega)]
  by_cases he : xs = ys
  · subst he; simp
  · have hne : ¬ ∀ i ∈ List.range' 0 (Std.Legacy.Range.size ⟨0, 4, 1, by decide⟩) 1, xs.getD i 0 = ys.getD i 0 := fun hc => he (getD_ext (by omega) (fun i hi => hc i (by simp [Std.Legacy.Range.size]; omega)))
    rw [if_neg hne]
    simp [he]
theorem part_num (L : Nat) (cs : List Nat) (w : World) : (part 22 (rcs L cs).toArray 0).run Try.prog w = .ok (.int .u32 (L : Int)) w := by
  have hu : Try.prog.underlying 22 = some (.int .u32) := by kernel_rfl
  simp [part, isAgg, run_underlying hu, rcs]
theorem part_arr (L : Nat) (cs : List Nat) (h : cs.length = 4) (w : World) : (part 25 (rcs L cs).toArray 1).run Try.prog w = .ok (.agg (u32s cs).toArray) w := by
  have hu : Try.prog.underlying 25 = some (.array 4 22) := by kernel_rfl
  have hs : (sizeOf 25).run Try.prog w = .ok 4 w := by kernel_rfl
  obtain ⟨a, b, c, d, rfl⟩ := four h
  simp [part, isAgg, run_underlying hu, rcs, u32s]
/-- The two fields of a ring. -/
structure Fields (fs : List Field) : Prop where
  ex : ∃ f g : Field, fs = [f, g] ∧ f.name ≠ "_" ∧ f.type = 22 ∧ f.offset = 0 ∧ g.name ≠ "_" ∧ g.type = 25 ∧ g.offset = 1
theorem fields_of {fs : List Field} (h : fs.map (fun f => (f.name, f.type, f.offset)) = [("Last", 22, 0), ("Counts", 25, 1)]) : Fields fs := by
  have hl : fs.length = 2 := by have := congrArg List.length h; simpa using this
  match fs, hl with
  | [f, g], _ =>
    simp only [List.map_cons, List.map_nil, List.cons.injEq, Prod.mk.injEq, and_true] at h
    obtain ⟨⟨h1, h2, h3⟩, h4, h5, h6⟩ := h
    exact ⟨f, g, rfl, by rw [h1]; decide, h2, h3, by rw [h4]; decide, h5, h6⟩
theorem fields_ring : Fields (Try.prog.fieldsOf 27).toList := fields_of (by kernel_rfl)
theorem eq_ringF (t : TypeId) (hU : Try.prog.underlying t = some (.struct (Try.prog.fieldsOf t))) (hp : Try.prog.stoodInHeld t = false) (hF : Fields (Try.prog.fieldsOf t).toList) (d L M : Nat) (xs ys : List Nat) (hx : xs.length = 4) (hy : ys.length = 4) (w : World) :
    (Op.equalIn (d + 3) t (.agg (rcs L xs).toArray) (.agg (rcs M ys).toArray)).run Try.prog w = .ok (decide (L = M ∧ xs = ys)) w := by
  rw [run_equalIn_struct w (d + 2) t _ _ hU hp]
  obtain ⟨f, g, hfs, n1, t1, o1, n2, t2, o2⟩ := hF.ex
  rw [hfs]
  simp only [Op.eqFields, n1, n2, ne_eq, not_false_eq_true, if_true, t1, t2, o1, o2, Sem.run_bind, part_num, Result.andThen_ok, eq_num]
  by_cases h1 : L = M
  · by_cases h2 : xs = ys
    · simp [h1, h2, part_arr _ _ hy, eq_arr d ys ys hy hy]
    · simp [h1, h2, part_arr _ _ hx, part_arr _ _ hy, eq_arr d xs ys hx hy]
  · simp [h1]
theorem eq_ring (d L M : Nat) (xs ys : List Nat) (hx : xs.length = 4) (hy : ys.length = 4) (w : World) :
    (Op.equalIn (d + 3) 27 (.agg (rcs L xs).toArray) (.agg (rcs M ys).toArray)).run Try.prog w = .ok (decide (L = M ∧ xs = ys)) w :=
  eq_ringF _ (by kernel_rfl) (by kernel_rfl) fields_ring d L M xs ys hx hy w
section
variable {o : Oper} {a : Act}
theorem run_op_eqlR (x y : Operand) (t' : TypeId) (ho : o.op = .binOp .eql 27 x y t') (L M : Nat) (xs ys : List Nat) (hlx : xs.length = 4) (hly : ys.length = 4) (hx : a.eval x = .agg (rcs L xs).toArray) (hy : a.eval y = .agg (rcs M ys).toArray) (w : World) :
    (execOp a.eval o).run Try.prog w = .ok (.value (.bool (decide (L = M ∧ xs = ys)))) w := by
  unfold execOp
  simp only [ho, hx, hy, Sem.run_bind, run_eqGuard_agg w _ _ _ _ _ _ (show Try.prog.eqGuardType Try.prog.depth 27 = false by kernel_rfl), Result.andThen_ok, binOp, Op.equal, Op.maxDepth, eq_ring 9997 L M xs ys hlx hly w, Sem.run_pure]
end

theorem partedB_any (n b : Nat) (w : World) (h1 : n < 4294967296) (b0 : 1 ≤ b) (b1 : b < 4294967296) :
    Calls Try.prog 78 #[.int .u32 (n : Int), .int .u32 (b : Int)] w fun e w' => e = .returned (.tuple #[.int .u32 ((n : Int) / (b : Int)), .int .u32 ((n : Int) % (b : Int))]) ∧ Below w.heap.size w w' := by
  have hz : ((b : Int) != 0) = true := bne_iff_ne.2 (by omega)
  have hz2 : ((b : Int) == 0) = false := beq_eq_false_iff_ne.2 (by omega)
  have hd0 : 0 ≤ (n : Int) / (b : Int) := Int.ediv_nonneg (by omega) (by omega)
  have hd1 : (n : Int) / (b : Int) ≤ 4294967295 := Int.le_trans (Int.ediv_le_self (b : Int) (by omega)) (by omega)
  have hm0 : 0 ≤ (n : Int) % (b : Int) := Int.emod_nonneg (n : Int) (by omega)
  have hm1 : (n : Int) % (b : Int) ≤ 4294967295 := by have := Int.emod_lt_of_pos (n : Int) (by omega : 0 < (b : Int)); omega
  go_enter Try.func78, Try.ntmps78
  go_wp2_with fail
  go_quiet (fail)
  go_wp2
  go_ret2
  exact ⟨rfl, below_drewN _ _ _⟩
theorem ringB_any (n : Nat) (w : World) (h1 : n < 4294967296) :
    Calls Try.prog 86 #[.int .u32 (n : Int)] w fun e w' => e = .returned (.int .i64 ((n % 4 : Nat) : Int)) ∧ Below w.heap.size w w' := by
  have C := partedB_any n 4 w h1 (by omega) (by omega)
  go_enter Try.func86, Try.ntmps86
  go_wp2_with fail
  refine C.mono ?_
  rintro e w1 ⟨rfl, g1⟩
  go_wp2
  go_ret
  exact ⟨congrArg (fun n => Ending.returned (.int .i64 n)) (by omega), g1⟩
end Go.Proofs.Ytghogoijjaiccaa.Rg

/-
  What a ring tells, over numbers and lists: how many blocks a sub-window has, the ring as of a later sub-window, with one block more; which rings are right.
-/
namespace Go.Proofs.Ytghogoijjaiccaa.Rg
open Go.Proofs.Ytghogoijjaiccaa.Mem Go.Proofs.Ytghogoijjaiccaa.Bt
set_option linter.unusedVariables false

theorem set_getD (l : List Nat) (i j n : Nat) (h : i < l.length) : (l.set i n).getD j 0 = if i = j then n else l.getD j 0 := by
  rw [List.getD_eq_getElem?_getD, List.getElem?_set, List.getD_eq_getElem?_getD]
  by_cases e : i = j
  · subst e; simp [h]
  · simp [e]
/-- No count is above three. -/
def Small (cs : List Nat) : Prop := ∀ i, i < 4 → cs.getD i 0 ≤ 3
/-- A ring that may be. -/
def Rt (L : Nat) (cs : List Nat) : Prop := Small cs ∧ 1 ≤ cs.getD (L % 4) 0
instance (cs : List Nat) : Decidable (Small cs) := by unfold Small; exact inferInstance
instance (L : Nat) (cs : List Nat) : Decidable (Rt L cs) := by unfold Rt; exact inferInstance
/-- The counts, none of the first k above three. -/
def mn (k : Nat) (cs : List Nat) : List Nat := (cs.take k).map (fun c => min c 3) ++ cs.drop k
theorem mn_len {k : Nat} {cs : List Nat} (h : cs.length = 4) (hk : k ≤ 4) : (mn k cs).length = 4 := by unfold mn; simp [h]; omega
theorem mn_zero (cs : List Nat) : mn 0 cs = cs := rfl
theorem mn_step {k : Nat} {cs : List Nat} (h : cs.length = 4) (hk : k < 4) : (mn k cs).set k (min (cs.getD k 0) 3) = mn (k + 1) cs := by
  obtain ⟨a, b, c, d, rfl⟩ := four h
  obtain rfl | rfl | rfl | rfl : k = 0 ∨ k = 1 ∨ k = 2 ∨ k = 3 := by omega
  all_goals simp [mn]
theorem mn_all {cs : List Nat} (h : cs.length = 4) {i : Nat} (hi : i < 4) : (mn 4 cs).getD i 0 = min (cs.getD i 0) 3 := by
  obtain ⟨a, b, c, d, rfl⟩ := four h
  obtain rfl | rfl | rfl | rfl : i = 0 ∨ i = 1 ∨ i = 2 ∨ i = 3 := by omega
  all_goals rfl
/-- The ring that is right and nearest. -/
def mend (L : Nat) (cs : List Nat) : List Nat := (mn 4 cs).set (L % 4) (max (min (cs.getD (L % 4) 0) 3) 1)
theorem mend_len {L : Nat} {cs : List Nat} (h : cs.length = 4) : (mend L cs).length = 4 := by unfold mend; rw [List.length_set, mn_len h (by omega)]
theorem mend_rt {L : Nat} {cs : List Nat} (h : cs.length = 4) : cs = mend L cs ↔ Rt L cs := by
  have key : ∀ i, i < 4 → (mend L cs).getD i 0 = if L % 4 = i then max (min (cs.getD (L % 4) 0) 3) 1 else min (cs.getD i 0) 3 := fun i hi => by
    unfold mend
    rw [set_getD _ _ _ _ (by rw [mn_len h (by omega)]; omega), mn_all h hi]
  constructor
  · intro e
    have e' : ∀ i, i < 4 → cs.getD i 0 = (mend L cs).getD i 0 := fun i _ => by rw [← e]
    refine ⟨fun i hi => ?_, ?_⟩
    · have := e' i hi
      rw [key i hi] at this
      split at this
      · omega
      · omega
    · have := e' (L % 4) (by omega)
      rw [key _ (by omega), if_pos rfl] at this
      omega
  · intro ⟨h1, h2⟩
    refine getD_ext (by rw [mend_len h, h]) fun i hi => ?_
    rw [h] at hi
    rw [key i hi]
    have := h1 i hi
    split
    · rename_i e; subst e; omega
    · omega
end Go.Proofs.Ytghogoijjaiccaa.Rg

/-
  The contracts of package ring's functions over this seat's translation.
-/
namespace Go.Proofs.Ytghogoijjaiccaa.Rg
open Go.ChangeShapes Go.WideShapes Go.ChangeAt Go.RowKit Go.Proofs.Ytghogoijjaiccaa.Mem Go.Proofs.Ytghogoijjaiccaa.Bt
set_option linter.unusedVariables false
set_option linter.unusedSimpArgs false

theorem z_len : (rcs 0 [0, 0, 0, 0]).length = 5 := rfl
theorem genesis_any (w : World) : Calls Try.prog 66 #[] w fun e w' => e = .returned (.agg (rcs 0 [1, 3, 3, 3]).toArray) ∧ Below w.heap.size w w' := by
  go_enter Try.func66, Try.ntmps66
  go_wp2_with (first
    | ((with_reducible refine at_slot 0 ?_); (refine arm_alloc (o := ⟨some 0, _, _, _, _, _⟩) rfl _ rfl (rcs 0 [0, 0, 0, 0]) z_ring ?_); intro R w1 hRe hR1 hN1)
    | ((with_reducible refine at_slot 1 ?_); (refine arm_build (o := ⟨some 1, _, _, _, _, _⟩) rfl _ _ rfl (u32s [1, 3, 3, 3]) (by kernel_rfl) ?_))
    | ((with_reducible refine at_slot 2 ?_); (refine arm_build (o := ⟨some 2, _, _, _, _, _⟩) rfl _ _ rfl (rcs 0 [1, 3, 3, 3]) (by kernel_rfl) ?_))
    | ((with_reducible refine arm_store (o := ⟨none, _, _, _, _, _⟩) rfl _ _ _ rfl R 0 rfl (rcs 0 [1, 3, 3, 3]) rfl _ _ hR1 (by rw [rcs_len rfl, rcs_len rfl]; omega) (rcs_one _ _) (sz_ring' rfl) ?_); intro w2 hR2 hO2 hS2))
  have eR := hRe.out
  refine bodyPost_ret (v := .agg (rcs 0 [1, 3, 3, 3]).toArray) (result_row (p := 0) (ty := 27) (u := 27) (by kernel_rfl) _ w2 R _ rfl (hR2.congr (lay_all _ _ (by rw [rcs_len rfl, rcs_len rfl]))) (sz_ring' rfl)) rfl ⟨rfl, below_only hN1.below hO2 (by omega) (by rw [hN1.size]; omega)⟩

structure MnRel (w : World) (L : Nat) (cs : List Nat) (B R : Nat) (i : Value) (wr : World) : Prop where
  ex : ∃ k : Nat, k ≤ 4 ∧ i = .int .i64 k ∧ Row wr B 27 (rcs L (mn k cs))
  res : Row wr R 27 (rcs 0 [0, 0, 0, 0])
  bel : Below w.heap.size w wr
theorem num_le3 (x : Nat) : (if (3 : Int) < (x : Int) then (3 : Int) else (x : Int)) = ((min x 3 : Nat) : Int) := by split <;> omega
theorem num_ge1 (x : Nat) : (if (x : Int) < (1 : Int) then (1 : Int) else (x : Int)) = ((max x 1 : Nat) : Int) := by split <;> omega
set_option maxHeartbeats 1000000 in
set_option maxRecDepth 100000 in
theorem mended_any (L : Nat) (cs : List Nat) (w : World) (hL : L < 4294967296) (hc : AllLt 4294967296 cs) (hl : cs.length = 4) :
    Calls Try.prog 85 #[.agg (rcs L cs).toArray] w fun e w' => e = .returned (.agg (rcs L (mend L cs)).toArray) ∧ Below w.heap.size w w' := by
  have HL := Lib.hid hl; have HC := Lib.hid hc; clear hl hc
  go_enter Try.func85, Try.ntmps85
  go_wp2_with (first
    | ((with_reducible refine at_slot 1 ?_); (refine arm_box (o := ⟨some 1, _, _, _, _, _⟩) rfl _ _ rfl (rcs L cs) rfl ?_); intro B w1 hBe hR1 hN1)
    | ((with_reducible refine at_slot 2 ?_); (refine arm_alloc (o := ⟨some 2, _, _, _, _, _⟩) rfl _ rfl (rcs 0 [0, 0, 0, 0]) z_ring ?_); intro R w2 hRe hR2 hN2)
    | ((with_reducible refine at_slot 7 ?_); (refine arm_load (o := ⟨some 7, _, _, _, _, _⟩) rfl _ _ rfl B 1 rfl (u32s cs) (row_counts (hR1.old hN2.below)) (sz_arr' HL.out) ?_)))
  have eB := hBe.out; have eR := hRe.out; have s1 := hN1.size; have s2 := hN2.size
  have h0 : MnRel w L cs B R (.int .i64 0) w2 := ⟨⟨0, by omega, rfl, by rw [mn_zero]; exact hR1.old hN2.below⟩, hR2, below_step hN1.below (by omega) hN2.below⟩
  have lB : w.heap.size ≤ B := by omega
  have lR : w.heap.size ≤ R := by omega
  have nBR : B ≠ R := by omega
  have NBR := Lib.hid nBR
  clear eB eR s1 s2 hBe hRe hR1 hR2 hN1 hN2 w1 nBR
  go_loopw [8] (fun i wr => MnRel w L cs B R i wr) (fun i _ => 4 - (intOf i).toNat)
  case atStart => exact h0
  case round =>
    clear h0
    obtain ⟨⟨k, hk, rfl, hRB⟩, hRR, hbel⟩ := hrel
    by_cases hlt : k < 4
    · have HX : ∃ x : Nat, x = cs.getD k 0 := ⟨_, rfl⟩
      obtain ⟨x, hx⟩ := HX
      have hxg : (u32s cs)[k]? = some (.int .u32 (x : Int)) := by rw [hx]; exact u32s_get (by rw [HL.out]; exact hlt)
      have HXK := Lib.hid hx; have HXG := Lib.hid hxg; clear hx hxg
      have ik : (k : Int) < 4 := by omega
      go_wp2_with (first
        | ((with_reducible refine at_slot 11 ?_); (refine arm_index (o := ⟨some 11, _, _, _, _, _⟩) rfl _ _ _ rfl 4 22 (by kernel_rfl) .u32 (by kernel_rfl) (by kernel_rfl) (u32s cs) rfl .i64 k rfl hlt _ HXG.out ?_))
        | ((with_reducible refine at_slot 14 ?_); (refine arm_min (o := ⟨some 14, _, _, _, _, _⟩) rfl _ _ _ rfl .u32 (x : Int) 3 rfl rfl (min x 3) (num_le3 x) ?_))
        | ((with_reducible refine arm_store1 (o := ⟨none, _, _, _, _, _⟩) rfl _ _ _ rfl B (1 + k) rfl .u32 ((min x 3 : Nat) : Int) rfl (by kernel_rfl) _ _ hRB (by rw [rcs_len (mn_len HL.out hk)]; omega) ?_); intro w3 hR3 hO3 hS3))
      go_roundw
      case rel => exact ⟨⟨k + 1, by omega, by go_num, hR3.congr (by rw [rcs_set, HXK.out, mn_step HL.out hlt])⟩, hRR.only hO3 (Ne.symm NBR.out), below_only hbel hO3 lB hbel.size⟩
      case measure => simp [intOf]; omega
    · obtain rfl : k = 4 := by omega
      have cB0 := hRB.cell (rcs_get0 L (mn 4 cs))
      go_wp2_with fail
      refine (ringB_any L wr hL).mono ?_
      rintro e w3 ⟨rfl, hN3⟩
      have hRB3 := hRB.old hN3
      have hRR3 := hRR.old hN3
      have bel3 : Below w.heap.size w w3 := below_step hbel hbel.size hN3
      clear cB0 hRB hRR hN3 hbel wr
      have HX : ∃ x : Nat, x = cs.getD (L % 4) 0 := ⟨_, rfl⟩
      obtain ⟨x, hx⟩ := HX
      have hj : L % 4 < 4 := by omega
      have ME : Hid ((mn 4 cs).set (L % 4) (max (min x 3) 1) = mend L cs) := by unfold mend; rw [hx]; exact rfl
      generalize L % 4 = j at hx hj ME ⊢
      have cBj := hRB3.cell (rcs_get (L := L) (cs := mn 4 cs) (i := j) (by rw [mn_len HL.out (by omega)]; exact hj))
      rw [mn_all HL.out hj, ← hx] at cBj
      clear hx
      have ij : (j : Int) < 4 := by omega
      go_wp2_with (first
        | ((with_reducible refine at_slot 26 ?_); (refine arm_max (o := ⟨some 26, _, _, _, _, _⟩) rfl _ _ _ rfl .u32 ((min x 3 : Nat) : Int) 1 rfl rfl (max (min x 3) 1) (num_ge1 _) ?_))
        | ((with_reducible refine arm_store1 (o := ⟨none, _, _, _, _, _⟩) rfl _ _ _ rfl B (1 + j) rfl .u32 ((max (min x 3) 1 : Nat) : Int) rfl (by kernel_rfl) _ _ hRB3 (by rw [rcs_len (mn_len HL.out (by omega))]; omega) ?_); intro w4 hR4 hO4 hS4)
        | ((with_reducible refine at_slot 29 ?_); (refine arm_load (o := ⟨some 29, _, _, _, _, _⟩) rfl _ _ rfl B 0 rfl (rcs L (mend L cs)) (row_all (hR4.congr (by rw [rcs_set, ME.out]))) (sz_ring' (mend_len HL.out)) ?_))
        | ((with_reducible refine arm_store (o := ⟨none, _, _, _, _, _⟩) rfl _ _ _ rfl R 0 rfl (rcs L (mend L cs)) rfl _ _ (hRR3.only hO4 (Ne.symm NBR.out)) (by rw [rcs_len (mend_len HL.out), z_len]; omega) (rcs_one _ _) (sz_ring' (mend_len HL.out)) ?_); intro w5 hR5 hO5 hS5))
      refine bodyPost_ret (v := .agg (rcs L (mend L cs)).toArray) (result_row (p := 2) (ty := 27) (u := 27) (by kernel_rfl) _ w5 R _ rfl (hR5.congr (lay_all _ _ (by rw [rcs_len (mend_len HL.out), z_len]))) (sz_ring' (mend_len HL.out))) rfl ⟨rfl, below_only (below_only bel3 hO4 lB bel3.size) hO5 lR (Nat.le_trans bel3.size hO4.size)⟩
theorem eq_mend (L : Nat) {cs : List Nat} (h : cs.length = 4) : decide (L = L ∧ cs = mend L cs) = decide (Rt L cs) := decide_eq_decide.2 (by rw [← mend_rt h]; exact ⟨fun h => h.2, fun h => ⟨rfl, h⟩⟩)
theorem right_any (L : Nat) (cs : List Nat) (w : World) (hL : L < 4294967296) (hc : AllLt 4294967296 cs) (hl : cs.length = 4) :
    Calls Try.prog 77 #[.agg (rcs L cs).toArray] w fun e w' => e = .returned (.bool (decide (Rt L cs))) ∧ Below w.heap.size w w' := by
  have HL := Lib.hid hl; have HC := Lib.hid hc; clear hl hc
  obtain ⟨v, hv⟩ : ∃ v : Bool, v = decide (Rt L cs) := ⟨_, rfl⟩
  rw [← hv]
  have HV := Lib.hid hv.symm; clear hv
  go_enter Try.func77, Try.ntmps77
  go_wp2_with (first
    | ((with_reducible refine at_slot 1 ?_); (refine arm_box (o := ⟨some 1, _, _, _, _, _⟩) rfl _ _ rfl (rcs L cs) rfl ?_); intro B w1 hBe hR1 hN1))
  refine wp_region_held (S := fun w' => Below w1.drew.heap.size w1.drew w') (by kernel_rfl) ?_
  change wpAnyH _ _ _ _ _ _ _ _ w1.drew
  have hRz : Row w1.drew B 27 (rcs L cs) := hR1
  have belz : Below w.heap.size w w1.drew := hN1.below.trans ((Below.refl _ _).drew)
  generalize w1.drew = wz at belz hRz ⊢
  clear hR1 hN1 hBe w1
  have hS : Below wz.heap.size wz wz := Below.refl _ _
  refine h_take 0 (.agg (rcs L cs).toArray) rfl 3 rfl (by kernel_rfl) (by kernel_rfl) (by kernel_rfl) (by kernel_rfl) (fun _ _ _ h => h) (fun w' hC => run_op_load _ _ rfl B 0 rfl (rcs L cs) (row_all (hRz.old hC)) (sz_ring' HL.out)) hS ?_
  simp only [Act.put, List.setIfInBounds_toArray, List.set_cons_zero, List.set_cons_succ]
  refine h_take 1 (.agg (rcs L cs).toArray) rfl 4 rfl (by kernel_rfl) (by kernel_rfl) (by kernel_rfl) (by kernel_rfl) (fun _ _ _ h => h) (fun w' hC => run_op_load _ _ rfl B 0 rfl (rcs L cs) (row_all (hRz.old hC)) (sz_ring' HL.out)) hS ?_
  simp only [Act.put, List.setIfInBounds_toArray, List.set_cons_zero, List.set_cons_succ]
  refine h_one (i := 2) (by kernel_rfl) (o_call rfl 5 rfl (by kernel_rfl) (run_op_call 85 _ _ rfl #[.agg (rcs L cs).toArray] (by simp only [List.map_toArray, List.map_cons, List.map_nil]; rfl) Try.func85 (by kernel_rfl) (by kernel_rfl) _) (mended_any L cs _ hL HC.out HL.out) ?_)
  rintro e y1 ⟨rfl, hB1⟩
  have hS1 : Below wz.heap.size wz y1 := below_step hS hS.size hB1
  refine ⟨_, rfl, hS1, ?_⟩
  clear hB1
  simp only [Act.put, List.setIfInBounds_toArray, List.set_cons_zero, List.set_cons_succ]
  refine h_take 3 (.bool v) rfl 6 rfl (by kernel_rfl) (by kernel_rfl) (by kernel_rfl) (by kernel_rfl) (fun _ _ _ h => h) (fun w' _ => (run_op_eqlR _ _ _ rfl L L cs (mend L cs) HL.out (mend_len HL.out) rfl rfl w').trans (by rw [eq_mend L HL.out, HV.out])) hS1 ?_
  simp only [Act.put, List.setIfInBounds_toArray, List.set_cons_zero, List.set_cons_succ]
  refine h_take 4 (.bool v) rfl 2 rfl (by kernel_rfl) (by kernel_rfl) (by kernel_rfl) (by kernel_rfl) (fun _ _ _ h => h) (fun w' _ => by kernel_rfl) hS1 ?_
  simp only [Act.put, List.setIfInBounds_toArray, List.set_cons_zero, List.set_cons_succ]
  refine wpAnyH_done (by kernel_rfl) ?_ _
  have belF := below_step belz belz.size hS1
  go_wp2_with fail
  go_ret
  exact ⟨rfl, belF⟩

end Go.Proofs.Ytghogoijjaiccaa.Rg

/-
  The contracts of package ring's Sum, Before and Put over this seat's translation.
-/
namespace Go.Proofs.Ytghogoijjaiccaa.Rg
open Go.ChangeShapes Go.WideShapes Go.ChangeAt Go.RowKit Go.Proofs.Ytghogoijjaiccaa.Mem Go.Proofs.Ytghogoijjaiccaa.Bt
set_option linter.unusedVariables false
set_option linter.unusedSimpArgs false

/-- The first k counts together. -/
def ps (k : Nat) (cs : List Nat) : Nat := (cs.take k).sum
end Go.Proofs.Ytghogoijjaiccaa.Rg

/-
  The contracts of the document's answers for rings over this seat's translation.
-/
namespace Go.Proofs.Ytghogoijjaiccaa.Rg
open Go.ChangeShapes Go.WideShapes Go.ChangeAt Go.RowKit Go.Proofs.Ytghogoijjaiccaa.Mem Go.Proofs.Ytghogoijjaiccaa.Bt
set_option linter.unusedVariables false
set_option linter.unusedSimpArgs false

structure RrRel (w : World) (L : Nat) (cs : List Nat) (B : Nat) (i : Value) (wr : World) : Prop where
  ex : ∃ k : Nat, k ≤ 4 ∧ i = .int .i64 k ∧ ∀ j, j < k → cs.getD j 0 ≤ 3
  row : Row wr B 49 (rcs L cs)
  bel : Below w.heap.size w wr
set_option maxHeartbeats 1000000 in
set_option maxRecDepth 100000 in
theorem rright_any (L : Nat) (cs : List Nat) (w : World) (hL : L < 4294967296) (hl : cs.length = 4) :
    Calls Try.prog 79 #[.agg (rcs L cs).toArray] w fun e w' => e = .returned (.bool (decide (Rt L cs))) ∧ Below w.heap.size w w' := by
  have HL := Lib.hid hl; clear hl
  go_enter Try.func79, Try.ntmps79
  go_wp2_with (first
    | ((with_reducible refine at_slot 1 ?_); (refine arm_box (o := ⟨some 1, _, _, _, _, _⟩) rfl _ _ rfl (rcs L cs) rfl ?_); intro B w1 hBe hR1 hN1))
  have h0 : RrRel w L cs B (.int .i64 0) w1 := ⟨⟨0, by omega, rfl, fun j hj => by omega⟩, hR1, hN1.below⟩
  clear hBe hR1 hN1
  go_loopw [3] (fun i wr => RrRel w L cs B i wr) (fun i _ => 4 - (intOf i).toNat)
  case atStart => exact h0
  case round =>
    clear h0
    obtain ⟨⟨k, hk, rfl, hall⟩, hRB, hbel⟩ := hrel
    have HA := Lib.hid hall; clear hall
    by_cases hlt : k < 4
    · have cB := hRB.cell (rcs_get (L := L) (cs := cs) (i := k) (by rw [HL.out]; exact hlt))
      obtain ⟨x, hx⟩ : ∃ x : Nat, x = cs.getD k 0 := ⟨_, rfl⟩
      rw [← hx] at cB
      have HX := Lib.hid hx; clear hx
      have ik : (k : Int) < 4 := by omega
      by_cases hb : x ≤ 3
      · have hd : decide ((3 : Int) < (x : Int)) = false := decide_eq_false (by omega)
        go_wp2_with fail
        go_roundw
        case rel => exact ⟨⟨k + 1, by omega, by go_num, fun j hj => by
          rcases Nat.lt_or_ge j k with h | h
          · exact HA.out j h
          · obtain rfl : j = k := by omega
            rw [← HX.out]; exact hb⟩, hRB, hbel⟩
        case measure => simp [intOf]; omega
      · have hd : decide ((3 : Int) < (x : Int)) = true := decide_eq_true (by omega)
        have hv : Hid (decide (Rt L cs) = false) := decide_eq_false (fun h => hb (by rw [HX.out]; exact h.1 k hlt))
        go_wp2_with fail
        go_ret
        exact ⟨by rw [hv.out]; rfl, hbel⟩
    · obtain rfl : k = 4 := by omega
      have hj : L % 4 < 4 := by omega
      have hjj : ((L : Int) % 4) = ((L % 4 : Nat) : Int) := by omega
      have hv : Hid (decide (Rt L cs) = decide ((1 : Int) ≤ ((cs.getD (L % 4) 0 : Nat) : Int))) := decide_eq_decide.2 ⟨fun h => by have := h.2; omega, fun h => ⟨fun i hi => HA.out i hi, by omega⟩⟩
      generalize L % 4 = j at hj hjj hv
      have cB := hRB.cell (rcs_get (L := L) (cs := cs) (i := j) (by rw [HL.out]; exact hj))
      have cB0 := hRB.cell (rcs_get0 L cs)
      generalize cs.getD j 0 = x at cB hv
      have ij : (j : Int) < 4 := by omega
      go_wp2_with fail
      go_ret
      exact ⟨by rw [hv.out]; rfl, hbel⟩

end Go.Proofs.Ytghogoijjaiccaa.Rg

/-
  The contract of the document's Put over this seat's translation.
-/
namespace Go.Proofs.Ytghogoijjaiccaa.Rg
open Go.ChangeShapes Go.WideShapes Go.ChangeAt Go.RowKit Go.Proofs.Ytghogoijjaiccaa.Mem Go.Proofs.Ytghogoijjaiccaa.Bt
set_option linter.unusedVariables false
set_option linter.unusedSimpArgs false

end Go.Proofs.Ytghogoijjaiccaa.Rg

/-
  Operations of whatever guard, once they are wanted; a struct written out, run; the contract of layer 6's awake over this seat's translation.
-/
namespace Go.Proofs.Ytghogoijjaiccaa.Rg
open Go.ChangeShapes Go.WideShapes Go.ChangeAt Go.RowKit Go.Proofs.Ytghogoijjaiccaa.Mem Go.Proofs.Ytghogoijjaiccaa.Bt
set_option linter.unusedVariables false
set_option linter.unusedSimpArgs false

end Go.Proofs.Ytghogoijjaiccaa.Rg

/-
  RingTells, walked: whether any ring may be, how many blocks it has, and any window ahead, and the ring with one block more are as the document says. Over this seat's translation.
-/
namespace Go.Proofs.Ytghogoijjaiccaa.Rg
open Go.ChangeShapes Go.WideShapes Go.ChangeAt Go.RowKit Go.Proofs.Ytghogoijjaiccaa.Mem Go.Proofs.Ytghogoijjaiccaa.Bt
set_option linter.unusedVariables false
set_option linter.unusedSimpArgs false

end Go.Proofs.Ytghogoijjaiccaa.Rg

/-
  RingFades, walked: the further off a sub-window, the fewer blocks are ahead of it. Over this seat's translation.
-/
namespace Go.Proofs.Ytghogoijjaiccaa.Rg
open Go.ChangeShapes Go.WideShapes Go.ChangeAt Go.RowKit Go.Proofs.Ytghogoijjaiccaa.Mem Go.Proofs.Ytghogoijjaiccaa.Bt
set_option linter.unusedVariables false
set_option linter.unusedSimpArgs false

end Go.Proofs.Ytghogoijjaiccaa.Rg

/-
  '!=' between integers and the load of one number, run; the document's Later and Sub over Nat; a slot's sub-window (package slot). Over this seat's translation.
-/
namespace Go.Proofs.Ytghogoijjaiccaa.Rg
open Go.ChangeShapes Go.WideShapes Go.ChangeAt Go.RowKit Go.Proofs.Ytghogoijjaiccaa.Mem Go.Proofs.Ytghogoijjaiccaa.Bt
set_option linter.unusedVariables false
set_option linter.unusedSimpArgs false

theorem sub_nat (s : Nat) (w : World) (hb : s < 4294967296) :
    Calls Try.prog 63 #[.int .u32 (s : Int)] w fun e w' => e = .returned (.int .u32 ((s / 3 : Nat) : Int)) ∧ w = w' :=
  (Slot.rsub_any (s : Int) w (by omega) (by omega)).mono fun e w' h => ⟨by rw [h.1]; exact congrArg (fun n => Ending.returned (.int .u32 n)) (by omega), h.2⟩
theorem subB_any (n : Nat) (w : World) (h1 : n < 4294967296) :
    Calls Try.prog 58 #[.int .u32 (n : Int)] w fun e w' => e = .returned (.int .u32 ((n / 3 : Nat) : Int)) ∧ Below w.heap.size w w' := by
  have C := partedB_any n 3 w h1 (by omega) (by omega)
  go_enter Try.func58, Try.ntmps58
  go_wp2_with fail
  refine C.mono ?_
  rintro e w1 ⟨rfl, g1⟩
  go_wp2
  go_ret
  exact ⟨congrArg (fun n => Ending.returned (.int .u32 n)) (by omega), g1⟩
theorem rsubB_any (n : Nat) (w : World) (h1 : n < 4294967296) :
    Calls Try.prog 63 #[.int .u32 (n : Int)] w fun e w' => e = .returned (.int .u32 ((n / 3 : Nat) : Int)) ∧ Below w.heap.size w w' :=
  (sub_nat n w h1).mono fun e w' h => ⟨h.1, h.2 ▸ Below.refl _ _⟩
end Go.Proofs.Ytghogoijjaiccaa.Rg
