/-
  '==' and '!=' between any two digests. Over this seat's translation.
-/
import Derived.Test.YticdapgfjkhoaaaShaEq
namespace Go.Proofs.Yticdapgfjkhoaaa.Sha
open Go.RowKit Go.Proofs.Yticdapgfjkhoaaa.Mem Go.Proofs.Yticdapgfjkhoaaa.Bt
set_option linter.unusedVariables false

theorem eq_bytes (d m n : Nat) (w : World) : (Op.equalIn (d + 1) 5 (.int .u8 (m : Int)) (.int .u8 (n : Int))).run Try.prog w = .ok (decide (m = n)) w := by
  have hu : Try.prog.underlying 5 = some (.int .u8) := by kernel_rfl
  rw [run_equalIn_int w d 5 .u8 .u8 m n hu]
  congr 1
  by_cases h : m = n
  · simp [h]
  · have : ((m : Int) == (n : Int)) = false := beq_eq_false_iff_ne.2 (by omega)
    rw [this]; simp [h]
theorem getD_ext {xs ys : List Nat} (h : xs.length = ys.length) (hg : ∀ i, i < xs.length → xs.getD i 0 = ys.getD i 0) : xs = ys := by
  apply List.ext_getElem h
  intro i h1 h2
  have := hg i h1
  rwa [List.getD_eq_getElem?_getD, List.getD_eq_getElem?_getD, List.getElem?_eq_getElem h1, List.getElem?_eq_getElem h2] at this
theorem eq_hash2 (d : Nat) (t : TypeId) (hu : Try.prog.underlying t = some (.array 32 5)) (xs ys : List Nat) (hx : xs.length = 32) (hy : ys.length = 32) (w : World) :
    (Op.equalIn (d + 2) t (.agg (u8s xs).toArray) (.agg (u8s ys).toArray)).run Try.prog w = .ok (decide (xs = ys)) w := by
  have hs : (sizeOf 5).run Try.prog w = .ok 1 w := by kernel_rfl
  unfold Op.equalIn
  simp only [Sem.run_bind, run_underlying hu, Result.andThen_ok, hs]
  have key : ∀ l : List Nat, (∀ i ∈ l, i < 32) → (forIn (m := Sem) l ((none : Option Bool), ()) fun i __s => do
      let a ← part 5 (u8s xs).toArray (i * 1)
      let b ← part 5 (u8s ys).toArray (i * 1)
      let r ← Op.equalIn (d + 1) 5 a b
      if (!r) = true then pure (ForInStep.done (some false, ())) else pure (ForInStep.yield (none, ()))).run Try.prog w = .ok (if ∀ i ∈ l, xs.getD i 0 = ys.getD i 0 then (none, ()) else (some false, ())) w := by
    intro l
    induction l with
    | nil => intro _; simp
    | cons i l ih =>
      intro h
      have hi := h i (by simp)
      rw [List.forIn_cons]
      simp only [Sem.run_bind, Nat.mul_one, part_u8s xs i (by omega) w, part_u8s ys i (by omega) w, Result.andThen_ok, eq_bytes]
      by_cases he : xs.getD i 0 = ys.getD i 0
      · simp only [he, decide_true, Bool.not_true, Bool.false_eq_true, if_false, Sem.run_pure, Result.andThen_ok]
        have := ih (fun j hj => h j (by simp [hj]))
        simp only [Nat.mul_one] at this
        rw [this]
        simp only [List.mem_cons, forall_eq_or_imp, he, true_and]
      · simp only [he, decide_false, Bool.not_false, if_true, Sem.run_pure, Result.andThen_ok]
        rw [if_neg (fun hc => he (hc i (by simp)))]
  rw [Std.Legacy.Range.forIn_eq_forIn_range']
  rw [key _ (fun i hi => by simp [Std.Legacy.Range.size] at hi; omega)]
  by_cases he : xs = ys
  · subst he; simp
  · have hne : ¬ ∀ i ∈ List.range' 0 (Std.Legacy.Range.size ⟨0, 32, 1, by decide⟩) 1, xs.getD i 0 = ys.getD i 0 := fun hc => he (getD_ext (by omega) (fun i hi => hc i (by simp [Std.Legacy.Range.size]; omega)))
    rw [if_neg hne]
    simp [he]
theorem run_eql2 (xs ys : List Nat) (hx : xs.length = 32) (hy : ys.length = 32) (w : World) : (binOp .eql 31 (.agg (u8s xs).toArray) (.agg (u8s ys).toArray)).run Try.prog w = .ok (.bool (decide (xs = ys))) w := by
  simp only [binOp, Op.equal, Op.maxDepth, Sem.run_bind, eq_hash2 9998 31 (by kernel_rfl) xs ys hx hy w, Result.andThen_ok, Sem.run_pure]
theorem run_neq2 (xs ys : List Nat) (hx : xs.length = 32) (hy : ys.length = 32) (w : World) : (binOp .neq 31 (.agg (u8s xs).toArray) (.agg (u8s ys).toArray)).run Try.prog w = .ok (.bool (!decide (xs = ys))) w := by
  simp only [binOp, Op.equal, Op.maxDepth, Sem.run_bind, eq_hash2 9998 31 (by kernel_rfl) xs ys hx hy w, Result.andThen_ok, Sem.run_pure]
section
variable {o : Oper} {a : Act}
theorem run_op_eql2 (x y : Operand) (t' : TypeId) (ho : o.op = .binOp .eql 31 x y t') (xs ys : List Nat) (hlx : xs.length = 32) (hly : ys.length = 32) (hx : a.eval x = .agg (u8s xs).toArray) (hy : a.eval y = .agg (u8s ys).toArray) (w : World) : (execOp a.eval o).run Try.prog w = .ok (.value (.bool (decide (xs = ys)))) w := by
  unfold execOp
  simp only [ho, hx, hy, Sem.run_bind, run_eqGuard_agg w _ _ _ _ _ _ (show Try.prog.eqGuardType Try.prog.depth 31 = false by kernel_rfl), Result.andThen_ok, run_eql2 xs ys hlx hly w, Sem.run_pure]
theorem run_op_neq2 (x y : Operand) (t' : TypeId) (ho : o.op = .binOp .neq 31 x y t') (xs ys : List Nat) (hlx : xs.length = 32) (hly : ys.length = 32) (hx : a.eval x = .agg (u8s xs).toArray) (hy : a.eval y = .agg (u8s ys).toArray) (w : World) : (execOp a.eval o).run Try.prog w = .ok (.value (.bool (!decide (xs = ys)))) w := by
  unfold execOp
  simp only [ho, hx, hy, Sem.run_bind, run_eqGuard_agg w _ _ _ _ _ _ (show Try.prog.eqGuardType Try.prog.depth 31 = false by kernel_rfl), Result.andThen_ok, run_neq2 xs ys hlx hly w, Sem.run_pure]
end
end Go.Proofs.Yticdapgfjkhoaaa.Sha
