/-
  '!=' between integers and the load of one number, run; the document's Later and Sub over Nat; a slot's sub-window (package slot). Over this seat's translation.
-/
import Derived.Test.YtbbmjjphkmjnbaaRingAwake
import Derived.Test.YtbbmjjphkmjnbaaRingMem
import Derived.Test.YtbbmjjphkmjnbaaSlot
namespace Go.Proofs.Ytbbmjjphkmjnbaa.Rg
open Go.ChangeShapes Go.WideShapes Go.ChangeAt Go.RowKit Go.Proofs.Ytbbmjjphkmjnbaa.Mem Go.Proofs.Ytbbmjjphkmjnbaa.Bt
set_option linter.unusedVariables false
set_option linter.unusedSimpArgs false

theorem run_op_neqI {P : Program} {o : Oper} {a : Act} (t t' : TypeId) (k' : IntKind) (hu : P.underlying t = some (.int k')) (x y : Operand) (ho : o.op = .binOp .neq t x y t') (k : IntKind) (m n : Int) (hx : a.eval x = .int k m) (hy : a.eval y = .int k n) (w : World) :
    (execOp a.eval o).run P w = .ok (.value (.bool (!(m == n)))) w := by
  unfold execOp
  simp [ho, hx, hy, eqGuard, binOp, Op.intCmp]
  rfl
theorem later_fits (a b s : Nat) (w : World) (hs : s = a + b) (hb : s < 4294967296) :
    Calls Try.prog 16 #[.int .u32 (a : Int), .int .u32 (b : Int)] w fun e w' => e = .returned (.tuple #[.int .u32 (s : Int), .int .i64 0]) ∧ w = w' := by
  have hi : Num.in32 ((a : Int) + (b : Int)) = true := by unfold Num.in32; simp; omega
  have hk : Num.keep32 ((a : Int) + (b : Int)) = (s : Int) := by unfold Num.keep32; rw [if_pos hi]; omega
  have h := Slot.rlater_any (a : Int) (b : Int) w (by omega) (by omega) (by omega) (by omega)
  rw [hi, hk] at h
  exact h
theorem later_over (a b : Nat) (w : World) (ha : a < 4294967296) (hb : b < 4294967296) (hs : 4294967296 ≤ a + b) :
    Calls Try.prog 16 #[.int .u32 (a : Int), .int .u32 (b : Int)] w fun e w' => e = .returned (.tuple #[.int .u32 0, .int .i64 5]) ∧ w = w' := by
  have hi : Num.in32 ((a : Int) + (b : Int)) = false := by unfold Num.in32; simp; omega
  have h := Slot.rlater_any (a : Int) (b : Int) w (by omega) (by omega) (by omega) (by omega)
  rw [hi, Slot.keep32_no0 hi] at h
  exact h
theorem sub_nat (s : Nat) (w : World) (hb : s < 4294967296) :
    Calls Try.prog 17 #[.int .u32 (s : Int)] w fun e w' => e = .returned (.int .u32 ((s / 3 : Nat) : Int)) ∧ w = w' :=
  (Slot.rsub_any (s : Int) w (by omega) (by omega)).mono fun e w' h => ⟨by rw [h.1]; exact congrArg (fun n => Ending.returned (.int .u32 n)) (by omega), h.2⟩
theorem run_op_load32 {o : Oper} {a : Act} (x : Operand) (ho : o.op = .load 22 x) (p : Addr) (hx : a.eval x = .pointer (some p)) (v : Value) {w : World} (hc : w.cell? p = some v) : (execOp a.eval o).run Try.prog w = .ok (.value v) w :=
  run_op_load1 22 x ho (.int .u32) (by kernel_rfl) rfl p hx v hc
theorem subB_any (n : Nat) (w : World) (h1 : n < 4294967296) :
    Calls Try.prog 31 #[.int .u32 (n : Int)] w fun e w' => e = .returned (.int .u32 ((n / 3 : Nat) : Int)) ∧ Below w.heap.size w w' := by
  have C := partedB_any n 3 w h1 (by omega) (by omega)
  go_enter Try.func31, Try.ntmps31
  go_wp2_with fail
  refine C.mono ?_
  rintro e w1 ⟨rfl, g1⟩
  go_wp2
  go_ret
  exact ⟨congrArg (fun n => Ending.returned (.int .u32 n)) (by omega), g1⟩
theorem rsubB_any (n : Nat) (w : World) (h1 : n < 4294967296) :
    Calls Try.prog 17 #[.int .u32 (n : Int)] w fun e w' => e = .returned (.int .u32 ((n / 3 : Nat) : Int)) ∧ Below w.heap.size w w' :=
  (sub_nat n w h1).mono fun e w' h => ⟨h.1, h.2 ▸ Below.refl _ _⟩
end Go.Proofs.Ytbbmjjphkmjnbaa.Rg
