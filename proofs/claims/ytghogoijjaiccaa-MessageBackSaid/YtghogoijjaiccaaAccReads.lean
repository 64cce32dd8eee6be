/-
  Accounts that came in, opened. Over this seat's translation.
-/
import Derived.Test.YtghogoijjaiccaaAccAll
import Derived.ProofKit
import Derived.OpenShut
import Derived.Deep.Strs
namespace Go.Proofs.Ytghogoijjaiccaa.Ac
open Go.ChangeShapes Go.WideShapes Go.ChangeAt Go.RowKit Go.Proofs.Ytghogoijjaiccaa.Mem Go.Proofs.Ytghogoijjaiccaa.Bt
set_option linter.unusedVariables false
set_option linter.unusedSimpArgs false

theorem acc_und : Try.prog.underlying 38 = some (.struct (Try.prog.fieldsOf 38)) := by kernel_rfl
theorem acc_flds : ∃ f0 f1 f2 : Field, Try.prog.fieldsOf 38 = #[f0, f1, f2] ∧ f0.type = 9 ∧ f0.offset = 0 ∧ f1.type = 36 ∧ f1.offset = 1 ∧ f2.type = 22 ∧ f2.offset = 2 :=
  ⟨(Try.prog.fieldsOf 38)[0]!, (Try.prog.fieldsOf 38)[1]!, (Try.prog.fieldsOf 38)[2]!, by kernel_rfl, by kernel_rfl, by kernel_rfl, by kernel_rfl, by kernel_rfl, by kernel_rfl, by kernel_rfl⟩
section
variable {H : Type} {enc : TypeId × Value → H} {w : World} {base : Nat} {spare : Nat → Bool} {held : Bool} {fuel : Nat} {cs : List Value} {x : DataW H × List MemPlace}
theorem acc_of (h : DataW.trod enc Try.prog w base spare held fuel 38 cs = some x) : ∃ a : Acct, cs = acs a ∧ a.Ok := by
  obtain ⟨f0, f1, f2, hf, t0, o0, t1, o1, t2, o2⟩ := acc_flds
  have hu := acc_und
  rw [hf] at hu
  obtain ⟨y0, y1, y2, n, rfl, hlen, h0, h1, h2⟩ := Deep.trod_struct3 hu h
  have c0 : Try.prog.cellsOf 9 = 1 := by kernel_rfl
  have c1 : Try.prog.cellsOf 36 = 1 := by kernel_rfl
  have c2 : Try.prog.cellsOf 22 = 1 := by kernel_rfl
  have c3 : Try.prog.cellsOf 38 = 3 := by kernel_rfl
  rw [c3] at hlen
  rw [t0, o0, c0] at h0
  rw [t1, o1, c1] at h1
  rw [t2, o2, c2] at h2
  obtain ⟨s, e0, _, _⟩ := DataW.trod_string Try.underlying9 h0
  obtain ⟨b, e1, _, w1⟩ := DataW.trod_int Try.underlying36 h1
  obtain ⟨m, e2, _, w2⟩ := DataW.trod_int Try.underlying22 h2
  simp [Lit.wf, IntKind.min, IntKind.max, IntKind.signed, IntKind.bits] at w1 w2
  obtain ⟨v0, v1, v2, rfl⟩ : ∃ v0 v1 v2, cs = [v0, v1, v2] := by
    match cs, hlen with
    | [v0, v1, v2], _ => exact ⟨v0, v1, v2, rfl⟩
  simp only [List.drop_zero, List.drop_succ_cons, List.take_succ_cons, List.take_zero, List.cons.injEq, and_true] at e0 e1 e2
  refine ⟨⟨s, b.toNat, m.toNat⟩, ?_, ⟨(show b.toNat < 18446744073709551616 by omega), (show m.toNat < 4294967296 by omega)⟩⟩
  rw [e0, e1, e2]
  unfold acs
  rw [Int.toNat_of_nonneg (by omega), Int.toNat_of_nonneg (by omega)]
end
end Go.Proofs.Ytghogoijjaiccaa.Ac
