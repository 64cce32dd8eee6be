/-
  '==' and '!=' between two digests that are the same, over this seat's translation.
-/
import Derived.Test.YticdapgfjkhoaaaBytes
import Derived.Test.YticdapgfjkhoaaaMemMore
namespace Go.Proofs.Yticdapgfjkhoaaa.Sha
open Go.RowKit Go.Proofs.Yticdapgfjkhoaaa.Mem Go.Proofs.Yticdapgfjkhoaaa.Bt
set_option linter.unusedVariables false

theorem part_u8s (xs : List Nat) (i : Nat) (hi : i < xs.length) (w : World) : (part 5 (u8s xs).toArray i).run Try.prog w = .ok (.int .u8 ((xs.getD i 0 : Nat) : Int)) w := by
  have hu : Try.prog.underlying 5 = some (.int .u8) := by kernel_rfl
  have hg := u8s_get hi
  simp [part, isAgg, run_underlying hu, hg]
theorem eq_byte (d : Nat) (n : Int) (w : World) : (Op.equalIn (d + 1) 5 (.int .u8 n) (.int .u8 n)).run Try.prog w = .ok true w := by
  have hu : Try.prog.underlying 5 = some (.int .u8) := by kernel_rfl
  rw [run_equalIn_int w d 5 .u8 .u8 n n hu]
  simp
theorem eq_hash (d : Nat) (xs : List Nat) (hx : xs.length = 32) (w : World) : (Op.equalIn (d + 2) 31 (.agg (u8s xs).toArray) (.agg (u8s xs).toArray)).run Try.prog w = .ok true w := by
  have hu : Try.prog.underlying 31 = some (.array 32 5) := by kernel_rfl
  have hs : (sizeOf 5).run Try.prog w = .ok 1 w := by kernel_rfl
  unfold Op.equalIn
  simp only [Sem.run_bind, run_underlying hu, Result.andThen_ok, hs]
  have key : ∀ l : List Nat, (∀ i ∈ l, i < xs.length) → (forIn (m := Sem) l ((none : Option Bool), ()) fun i __s => do
      let a ← part 5 (u8s xs).toArray (i * 1)
      let b ← part 5 (u8s xs).toArray (i * 1)
      let r ← Op.equalIn (d + 1) 5 a b
      if (!r) = true then pure (ForInStep.done (some false, ())) else pure (ForInStep.yield (none, ()))).run Try.prog w = .ok (none, ()) w := by
    intro l
    induction l with
    | nil => intro _; simp
    | cons i l ih =>
      intro h
      have hi := h i (by simp)
      rw [List.forIn_cons]
      simp only [Sem.run_bind, Nat.mul_one, part_u8s xs i hi w, Result.andThen_ok, eq_byte, Bool.not_true, Bool.false_eq_true, if_false, Sem.run_pure]
      have := ih (fun j hj => h j (by simp [hj]))
      simpa only [Nat.mul_one] using this
  rw [Std.Legacy.Range.forIn_eq_forIn_range']
  rw [key _ (fun i hi => by simp [Std.Legacy.Range.size] at hi; omega)]
  simp
/-- The two operations, run. -/
theorem run_eql_hash (xs : List Nat) (hx : xs.length = 32) (w : World) : (binOp .eql 31 (.agg (u8s xs).toArray) (.agg (u8s xs).toArray)).run Try.prog w = .ok (.bool true) w := by
  simp only [binOp, Op.equal, Op.maxDepth, Sem.run_bind, eq_hash 9998 xs hx w, Result.andThen_ok, Sem.run_pure]
theorem run_neq_hash (xs : List Nat) (hx : xs.length = 32) (w : World) : (binOp .neq 31 (.agg (u8s xs).toArray) (.agg (u8s xs).toArray)).run Try.prog w = .ok (.bool false) w := by
  simp only [binOp, Op.equal, Op.maxDepth, Sem.run_bind, eq_hash 9998 xs hx w, Result.andThen_ok, Sem.run_pure, Bool.not_true]
section
variable {o : Oper} {a : Act}
theorem run_op_eql (x y : Operand) (t' : TypeId) (ho : o.op = .binOp .eql 31 x y t') (xs : List Nat) (hl : xs.length = 32) (hx : a.eval x = .agg (u8s xs).toArray) (hy : a.eval y = .agg (u8s xs).toArray) (w : World) : (execOp a.eval o).run Try.prog w = .ok (.value (.bool true)) w := by
  unfold execOp
  simp only [ho, hx, hy, Sem.run_bind, run_eqGuard_agg w _ _ _ _ _ _ (show Try.prog.eqGuardType Try.prog.depth 31 = false by kernel_rfl), Result.andThen_ok, run_eql_hash xs hl w, Sem.run_pure]
theorem run_op_neq (x y : Operand) (t' : TypeId) (ho : o.op = .binOp .neq 31 x y t') (xs : List Nat) (hl : xs.length = 32) (hx : a.eval x = .agg (u8s xs).toArray) (hy : a.eval y = .agg (u8s xs).toArray) (w : World) : (execOp a.eval o).run Try.prog w = .ok (.value (.bool false)) w := by
  unfold execOp
  simp only [ho, hx, hy, Sem.run_bind, run_eqGuard_agg w _ _ _ _ _ _ (show Try.prog.eqGuardType Try.prog.depth 31 = false by kernel_rfl), Result.andThen_ok, run_neq_hash xs hl w, Sem.run_pure]
end
end Go.Proofs.Yticdapgfjkhoaaa.Sha
