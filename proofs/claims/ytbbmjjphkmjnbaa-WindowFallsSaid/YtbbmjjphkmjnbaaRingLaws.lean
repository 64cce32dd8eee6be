/-
  RingTells, walked: whether any ring may be, how many blocks it has, and any window ahead, and the ring with one block more are as the document says. Over this seat's translation.
-/
import Derived.Test.YtbbmjjphkmjnbaaRingAwake
import Derived.Test.YtbbmjjphkmjnbaaRingRefPut
namespace Go.Proofs.Ytbbmjjphkmjnbaa.Rg
open Go.ChangeShapes Go.WideShapes Go.ChangeAt Go.RowKit Go.Proofs.Ytbbmjjphkmjnbaa.Mem Go.Proofs.Ytbbmjjphkmjnbaa.Bt
set_option linter.unusedVariables false
set_option linter.unusedSimpArgs false

theorem run_op_eqlI {P : Program} {o : Oper} {a : Act} (t t' : TypeId) (k' : IntKind) (hu : P.underlying t = some (.int k')) (x y : Operand) (ho : o.op = .binOp .eql t x y t') (k : IntKind) (m n : Int) (hx : a.eval x = .int k m) (hy : a.eval y = .int k n) (w : World) :
    (execOp a.eval o).run P w = .ok (.value (.bool (m == n))) w := by
  unfold execOp
  simp [ho, hx, hy, eqGuard, binOp, Op.intCmp]
theorem eqI_same (m : Int) : (m == m) = true := beq_self_eq_true m
/-- What Put answers. -/
def putL (L : Nat) (cs : List Nat) (sub : Nat) : Nat := if L ≤ sub ∧ atG L cs sub < 3 then sub else 0
def putC (L : Nat) (cs : List Nat) (sub : Nat) : List Nat := if L ≤ sub ∧ atG L cs sub < 3 then putd L cs sub else [0, 0, 0, 0]
def putE (L : Nat) (cs : List Nat) (sub : Nat) : Int := if sub < L then 6 else if atG L cs sub < 3 then 0 else 11
theorem putC_len (L : Nat) (cs : List Nat) (sub : Nat) : (putC L cs sub).length = 4 := by unfold putC; split; exact putd_len _ _ _; rfl
theorem put_any (L sub : Nat) (cs : List Nat) (w : World) (hb : sub < 4294967296) (hs : Small cs) (hl : cs.length = 4) :
    Calls Try.prog 30 #[.agg (rcs L cs).toArray, .int .u32 (sub : Int)] w fun e w' => e = .returned (.tuple #[.agg (rcs (putL L cs sub) (putC L cs sub)).toArray, .int .i64 (putE L cs sub)]) ∧ Below w.heap.size w w' := by
  unfold putL putC putE
  rcases Nat.lt_or_ge sub L with h | h
  · rw [if_neg (by omega), if_neg (by omega), if_pos h]
    exact put_early L sub cs w h hl
  · rw [if_neg (show ¬ sub < L by omega)]
    rcases Nat.lt_or_ge (atG L cs sub) 3 with h3 | h3
    · rw [if_pos ⟨h, h3⟩, if_pos ⟨h, h3⟩, if_pos h3]
      exact put_ok L sub cs w h hb h3 hl
    · have := atG_small (L := L) hs (sub : Int)
      rw [if_neg (by omega), if_neg (by omega), if_neg (by omega)]
      exact put_full L sub cs w h hb (by omega) hl
theorem rput_any (L sub : Nat) (cs : List Nat) (w : World) (hL : L < 4294967296) (hb : sub < 4294967296) (hs : Small cs) (hl : cs.length = 4) :
    Calls Try.prog 26 #[.agg (rcs L cs).toArray, .int .u32 (sub : Int)] w fun e w' => e = .returned (.tuple #[.agg (rcs (putL L cs sub) (putC L cs sub)).toArray, .int .i64 (putE L cs sub)]) ∧ Below w.heap.size w w' := by
  unfold putL putC putE
  rcases Nat.lt_or_ge sub L with h | h
  · rw [if_neg (by omega), if_neg (by omega), if_pos h]
    exact rput_early L sub cs w h hl
  · rw [if_neg (show ¬ sub < L by omega)]
    rcases Nat.lt_or_ge (atG L cs sub) 3 with h3 | h3
    · rw [if_pos ⟨h, h3⟩, if_pos ⟨h, h3⟩, if_pos h3]
      exact rput_ok L sub cs w hL h hb h3 hl
    · have := atG_small (L := L) hs (sub : Int)
      rw [if_neg (by omega), if_neg (by omega), if_neg (by omega)]
      exact rput_full L sub cs w hL h (by omega) hl
end Go.Proofs.Ytbbmjjphkmjnbaa.Rg
