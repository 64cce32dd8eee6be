/-
  '==' and '!=' between any two digests; structs of a text and a digest as keys of maps. Over this seat's translation.
-/
import Derived.Test.YtebfdbibeecncaaDoorShaEq
import Derived.Test.YtebfdbibeecncaaDoorMaps
import Derived.Laws.StructEq
namespace Go.Proofs.YtebfdbibeecncaaDoor.Sha
open Go.RowKit Go.Proofs.YtebfdbibeecncaaDoor.Mem Go.Proofs.YtebfdbibeecncaaDoor.Bt
set_option linter.unusedVariables false

theorem eq_bytes (d m n : Nat) (w : World) : (Op.equalIn (d + 1) 5 (.int .u8 (m : Int)) (.int .u8 (n : Int))).run Tryd.prog w = .ok (decide (m = n)) w := by
  have hu : Tryd.prog.underlying 5 = some (.int .u8) := by kernel_rfl
  rw [run_equalIn_int w d 5 .u8 .u8 m n hu]
  congr 1
  by_cases h : m = n
  · simp [h]
  · have : ((m : Int) == (n : Int)) = false := beq_eq_false_iff_ne.2 (by omega)
    rw [this]; simp [h]
theorem getD_ext {xs ys : List Nat} (h : xs.length = ys.length) (hg : ∀ i, i < xs.length → xs.getD i 0 = ys.getD i 0) : xs = ys := by
  apply List.ext_getElem h
  intro i h1 h2
  have := hg i h1
  rwa [List.getD_eq_getElem?_getD, List.getD_eq_getElem?_getD, List.getElem?_eq_getElem h1, List.getElem?_eq_getElem h2] at this
theorem eq_hash2 (d : Nat) (t : TypeId) (hu : Tryd.prog.underlying t = some (.array 32 5)) (xs ys : List Nat) (hx : xs.length = 32) (hy : ys.length = 32) (w : World) :
    (Op.equalIn (d + 2) t (.agg (u8s xs).toArray) (.agg (u8s ys).toArray)).run Tryd.prog w = .ok (decide (xs = ys)) w := by
  have hs : (sizeOf 5).run Tryd.prog w = .ok 1 w := by kernel_rfl
  unfold Op.equalIn
  simp only [Sem.run_bind, run_underlying hu, Result.andThen_ok, hs]
  have key : ∀ l : List Nat, (∀ i ∈ l, i < 32) → (forIn (m := Sem) l ((none : Option Bool), ()) fun i __s => do
      let a ← part 5 (u8s xs).toArray (i * 1)
      let b ← part 5 (u8s ys).toArray (i * 1)
      let r ← Op.equalIn (d + 1) 5 a b
      if (!r) = true then pure (ForInStep.done (some false, ())) else pure (ForInStep.yield (none, ()))).run Tryd.prog w = .ok (if ∀ i ∈ l, xs.getD i 0 = ys.getD i 0 then (none, ()) else (some false, ())) w := by
    intro l
    induction l with
    | nil => intro _; simp
    | cons i l ih =>
      intro h
      have hi := h i (by simp)
      rw [List.forIn_cons]
      simp only [Sem.run_bind, Nat.mul_one, part_u8s xs i (by omega) w, part_u8s ys i (by omega) w, Result.andThen_ok, eq_bytes]
      by_cases he : xs.getD i 0 = ys.getD i 0
      · simp only [he, decide_true, Bool.not_true, Bool.false_eq_true, if_false, Sem.run_pure, Result.andThen_ok]
        have := ih (fun j hj => h j (by simp [hj]))
        simp only [Nat.mul_one] at this
        rw [this]
        simp only [List.mem_cons, forall_eq_or_imp, he, true_and]
      · simp only [he, decide_false, Bool.not_false, if_true, Sem.run_pure, Result.andThen_ok]
        rw [if_neg (fun hc => he (hc i (by simp)))]
  rw [Std.Legacy.Range.forIn_eq_forIn_range']
  rw [key _ (fun i hi => by simp [Std.Legacy.Range.size] at hi; omega)]
  by_cases he : xs = ys
  · subst he; simp
  · have hne : ¬ ∀ i ∈ List.range' 0 (Std.Legacy.Range.size ⟨0, 32, 1, by decide⟩) 1, xs.getD i 0 = ys.getD i 0 := fun hc => he (getD_ext (by omega) (fun i hi => hc i (by simp [Std.Legacy.Range.size]; omega)))
    rw [if_neg hne]
    simp [he]
theorem run_eql2 (xs ys : List Nat) (hx : xs.length = 32) (hy : ys.length = 32) (w : World) : (binOp .eql 32 (.agg (u8s xs).toArray) (.agg (u8s ys).toArray)).run Tryd.prog w = .ok (.bool (decide (xs = ys))) w := by
  simp only [binOp, Op.equal, Op.maxDepth, Sem.run_bind, eq_hash2 9998 32 (by kernel_rfl) xs ys hx hy w, Result.andThen_ok, Sem.run_pure]
theorem run_neq2 (xs ys : List Nat) (hx : xs.length = 32) (hy : ys.length = 32) (w : World) : (binOp .neq 32 (.agg (u8s xs).toArray) (.agg (u8s ys).toArray)).run Tryd.prog w = .ok (.bool (!decide (xs = ys))) w := by
  simp only [binOp, Op.equal, Op.maxDepth, Sem.run_bind, eq_hash2 9998 32 (by kernel_rfl) xs ys hx hy w, Result.andThen_ok, Sem.run_pure]
section
variable {o : Oper} {a : Act}
theorem run_op_eql2 (x y : Operand) (t' : TypeId) (ho : o.op = .binOp .eql 32 x y t') (xs ys : List Nat) (hlx : xs.length = 32) (hly : ys.length = 32) (hx : a.eval x = .agg (u8s xs).toArray) (hy : a.eval y = .agg (u8s ys).toArray) (w : World) : (execOp a.eval o).run Tryd.prog w = .ok (.value (.bool (decide (xs = ys)))) w := by
  unfold execOp
  simp only [ho, hx, hy, Sem.run_bind, run_eqGuard_agg w _ _ _ _ _ _ (show Tryd.prog.eqGuardType Tryd.prog.depth 32 = false by kernel_rfl), Result.andThen_ok, run_eql2 xs ys hlx hly w, Sem.run_pure]
theorem run_op_neq2 (x y : Operand) (t' : TypeId) (ho : o.op = .binOp .neq 32 x y t') (xs ys : List Nat) (hlx : xs.length = 32) (hly : ys.length = 32) (hx : a.eval x = .agg (u8s xs).toArray) (hy : a.eval y = .agg (u8s ys).toArray) (w : World) : (execOp a.eval o).run Tryd.prog w = .ok (.value (.bool (!decide (xs = ys)))) w := by
  unfold execOp
  simp only [ho, hx, hy, Sem.run_bind, run_eqGuard_agg w _ _ _ _ _ _ (show Tryd.prog.eqGuardType Tryd.prog.depth 32 = false by kernel_rfl), Result.andThen_ok, run_neq2 xs ys hlx hly w, Sem.run_pure]
end
/-- A key: a text, and a digest. -/
abbrev Key := ByteArray × List Nat
def keyOk (x : Key) : Prop := x.2.length = 32
def keyCells (x : Key) : List Value := .string x.1 :: u8s x.2
def keyV (x : Key) : Value := .agg (keyCells x).toArray
theorem keyCells_one (x : Key) : OneCells (keyCells x) := by
  intro v hv
  rcases List.mem_cons.1 hv with rfl | hv
  · rfl
  · exact u8s_one _ v hv
/-- A struct of a text and a digest. -/
structure KeyType (t : TypeId) : Prop where
  und : Tryd.prog.underlying t = some (.struct (Tryd.prog.fieldsOf t))
  held : Tryd.prog.stoodInHeld t = false
  flds : ∃ f0 f1 : Field, Tryd.prog.fieldsOf t = #[f0, f1] ∧ f0.name ≠ "_" ∧ f1.name ≠ "_" ∧ f0.type = 9 ∧ f0.offset = 0 ∧ f1.type = 32 ∧ f1.offset = 1
theorem part_text (x : Key) (w : World) : (part 9 (keyCells x).toArray 0).run Tryd.prog w = .ok (.string x.1) w := by
  have hu : Tryd.prog.underlying 9 = some .string := by kernel_rfl
  simp [part, isAgg, run_underlying hu, keyCells]
theorem part_hash (x : Key) (hx : keyOk x) (w : World) : (part 32 (keyCells x).toArray 1).run Tryd.prog w = .ok (.agg (u8s x.2).toArray) w := by
  have hu : Tryd.prog.underlying 32 = some (.array 32 5) := by kernel_rfl
  have hl : (u8s x.2).length = 32 := by rw [u8s_length]; exact hx
  simp [part, isAgg, run_underlying hu]
  exact List.take_of_length_le (Nat.le_of_eq hl)
theorem key_eq (t : TypeId) (T : KeyType t) (x y : Key) (hx : keyOk x) (hy : keyOk y) (w : World) : (Op.equal t (keyV x) (keyV y)).run Tryd.prog w = .ok (decide (x = y)) w := by
  obtain ⟨f0, f1, hf, n0, n1, t0, o0, t1, o1⟩ := T.flds
  have hstr : Tryd.prog.underlying 9 = some .string := by kernel_rfl
  unfold Op.equal Op.maxDepth keyV
  rw [run_equalIn_struct w 9999 t _ _ T.und T.held, hf]
  simp only [Op.eqFields, n0, n1, t0, t1, o0, o1, ne_eq, not_false_eq_true, if_true, Sem.run_bind, part_text, Result.andThen_ok]
  rw [run_equalIn_string w 9998 9 _ _ hstr]
  have hb : (x.1.toList == y.1.toList) = decide (x.1 = y.1) := by
    by_cases h : x.1 = y.1
    · simp [h]
    · rw [decide_eq_false h]
      refine beq_eq_false_iff_ne.2 fun e => h ?_
      rw [ByteArray.toList_eq, ByteArray.toList_eq] at e
      exact ByteArray.ext (Array.ext' e)
  rw [hb]
  by_cases h1 : x.1 = y.1
  · simp only [h1, decide_true, Bool.not_true, Bool.false_eq_true, if_false, Result.andThen_ok, Sem.run_bind, part_hash x hx, part_hash y hy, eq_hash2 9997 32 (by kernel_rfl) x.2 y.2 hx hy w]
    by_cases h2 : x.2 = y.2
    · have : x = y := Prod.ext h1 h2
      simp [this]
    · have : ¬ x = y := fun e => h2 (by rw [e])
      simp [h2, this]
  · have : ¬ x = y := fun e => h1 (by rw [e])
    simp [h1, this]
theorem check_byte (em : Bool) (n : Nat) (v : Value) (w : World) : (Instr.checkKey em (n + 1) 5 v).run Tryd.prog w = .ok () w := by
  have hu : Tryd.prog.underlying 5 = some (.int .u8) := by kernel_rfl
  unfold Instr.checkKey
  simp [run_underlying hu]
theorem check_hash (em : Bool) (n : Nat) (xs : List Nat) (hx : xs.length = 32) (w : World) : (Instr.checkKey em (n + 2) 32 (.agg (u8s xs).toArray)).run Tryd.prog w = .ok () w := by
  have hu : Tryd.prog.underlying 32 = some (.array 32 5) := by kernel_rfl
  have hs : (sizeOf 5).run Tryd.prog w = .ok 1 w := by kernel_rfl
  unfold Instr.checkKey
  simp only [Sem.run_bind, run_underlying hu, Result.andThen_ok]
  have key : ∀ l : List Nat, (∀ i ∈ l, i < 32) → (forIn (m := Sem) l PUnit.unit fun i __s => do
      let s ← sizeOf 5
      let a ← part 5 (u8s xs).toArray (i * s)
      Instr.checkKey em (n + 1) 5 a
      pure (ForInStep.yield PUnit.unit)).run Tryd.prog w = .ok PUnit.unit w := by
    intro l
    induction l with
    | nil => intro _; simp
    | cons i l ih =>
      intro h
      rw [List.forIn_cons]
      simp only [Sem.run_bind, hs, Result.andThen_ok, Nat.mul_one, part_u8s xs i (by have := h i (by simp); omega) w, check_byte, Sem.run_pure]
      exact ih (fun j hj => h j (by simp [hj]))
  rw [Std.Legacy.Range.forIn_eq_forIn_range']
  rw [key _ (fun i hi => by simp [Std.Legacy.Range.size] at hi; omega)]
  rfl
theorem key_check (t : TypeId) (T : KeyType t) (x : Key) (hx : keyOk x) (em : Bool) (w : World) : (Instr.checkKey em 10000 t (keyV x)).run Tryd.prog w = .ok () w := by
  obtain ⟨f0, f1, hf, n0, n1, t0, o0, t1, o1⟩ := T.flds
  have hstr : Tryd.prog.underlying 9 = some .string := by kernel_rfl
  have hc0 : (Instr.checkKey em 9999 9 (.string x.1)).run Tryd.prog w = .ok () w := by
    unfold Instr.checkKey
    simp [run_underlying hstr]
  have hu : Tryd.prog.underlying t = some (.struct #[f0, f1]) := by rw [← hf]; exact T.und
  unfold Instr.checkKey keyV
  simp only [Sem.run_bind, run_underlying hu, Result.andThen_ok]
  simp [n0, n1, t0, t1, o0, o1, part_text, part_hash x hx, hc0, check_hash em 9997 x.2 hx]
theorem key_kind (t : TypeId) (T : KeyType t) : Mp.KeyKind Tryd.prog t keyV keyOk :=
  ⟨fun x hx em w => key_check t T x hx em w, fun x y hx hy w => key_eq t T x y hx hy w, ⟨_, T.und, fun v v' => by cases v <;> cases v' <;> rfl⟩⟩
end Go.Proofs.YtebfdbibeecncaaDoor.Sha
