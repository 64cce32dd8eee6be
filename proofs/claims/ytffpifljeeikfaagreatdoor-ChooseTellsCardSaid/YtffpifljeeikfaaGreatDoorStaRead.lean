/-
  The contract of package state's read, over this seat's translation: all digests of a state are gone through, and read one behind the other.
-/
import Derived.Test.YtffpifljeeikfaaGreatDoorStaBytes
import Derived.Test.YtffpifljeeikfaaGreatDoorWireAll
import Derived.Test.YtffpifljeeikfaaGreatDoorMemAll
namespace Go.Proofs.YtffpifljeeikfaaGreatDoor.Sa
open Go.ChangeShapes Go.WideShapes Go.ChangeAt Go.RowKit Go.Proofs.YtffpifljeeikfaaGreatDoor.Mem Go.Proofs.YtffpifljeeikfaaGreatDoor.Bt Go.Proofs.YtffpifljeeikfaaGreatDoor.Rf Go.Proofs.YtffpifljeeikfaaGreatDoor.Wi
open Go.Proofs.YtffpifljeeikfaaGreatDoor.Tg (Rd Rd.below)
open Go.Proofs.YtffpifljeeikfaaGreatDoor.Ep (H32 Dat zh zh_ok num32 dcs dcs_len dcs_one zd zd_ok Has h_len one_app one_num szH set_lay)
set_option linter.unusedVariables false
set_option linter.unusedSimpArgs false
attribute [local go_sem] Oper.semAt_some

theorem wp_calm {P : Program} {c : Code} {Q : Exit → Act → World → Prop} {a : Act} {w : World} (h : c.wp P (fun e a' w' => e = .normal ∧ Q .normal a' w') a w) : c.wp P Q a w :=
  wp_mono h (fun e a w h => by obtain ⟨rfl, h⟩ := h; exact h)
/-- Where all that is read lies. -/
structure Lies (w : World) (S0 S R d X : Nat) : Prop where
  n0 : w.heap.size ≤ S0
  s0 : S0 < S
  sr : S < R
  sd : S < d
  rx : R < X
section
variable {w wr wr' : World} {S0 S R d X : Nat} {b : List Nat} {i : Nat}
end
section
variable {w wr wa wb : World} {S0 S R d X : Nat} {b : List Nat} {i : Nat}
end
theorem pt_only {w w' : World} {q : Option Addr} {vs cs : List Value} {b : Nat} {t : TypeId} (hq : Pt w q vs) (hr : Row w b t cs) (ht : t ≠ 133) (ho : Only b w w') : Pt w' q vs := ⟨fun hne => by
  obtain ⟨g, cur, e, hh, hc⟩ := hq.at_ hne
  refine ⟨g, cur, e, (ho.block g (Array.getElem?_eq_some_iff.1 hh).1 (fun e => ?_)).trans hh, hc⟩
  subst e
  have := Option.some.inj ((show w.heap[g]? = _ from hr).symm.trans hh)
  exact ht (Obj.cells.inj this).2.1⟩
/-- What read leaves. -/
structure RedPost (w : World) (b : List Nat) (e : Ending) (w' : World) : Prop where
  ret : e = .returned (.tuple #[.agg (scs (staR b)).toArray, .int .i64 (endR (qs b 22) : Int)])
  bel : Below w.heap.size w w'
end Go.Proofs.YtffpifljeeikfaaGreatDoor.Sa
