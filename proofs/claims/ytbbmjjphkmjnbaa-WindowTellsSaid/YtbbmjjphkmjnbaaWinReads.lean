/-
  A window state that came in: what its cells are. Over this seat's translation.
-/
import Derived.Test.YtbbmjjphkmjnbaaRingReads
import Derived.Test.YtbbmjjphkmjnbaaWinMem
namespace Go.Proofs.Ytbbmjjphkmjnbaa.Wn
open Go.ChangeShapes Go.WideShapes Go.ChangeAt Go.RowKit Go.Proofs.Ytbbmjjphkmjnbaa.Mem Go.Proofs.Ytbbmjjphkmjnbaa.Bt Go.Proofs.Ytbbmjjphkmjnbaa.Rg
set_option linter.unusedVariables false
section
variable {H : Type} {enc : TypeId × Value → H} {w : World} {base : Nat} {spare : Nat → Bool} {held : Bool} {fuel : Nat} {cs : List Value} {x : DataW H × List MemPlace}
theorem win_und : Try.prog.underlying 27 = some (.struct (Try.prog.fieldsOf 27)) := by kernel_rfl
/-- A window state. -/
theorem win_of (h : DataW.trod enc Try.prog w base spare held fuel 27 cs = some x) : ∃ (M L : Nat) (ds : List Nat), cs = wcs M L ds ∧ M < 4294967296 ∧ L < 4294967296 ∧ ds.length = 4 ∧ AllLt 4294967296 ds := by
  obtain ⟨f0, f1, hf, _, t0, o0, _, t1, o1⟩ := fields_win.ex
  have hu := win_und
  have hfa : Try.prog.fieldsOf 27 = #[f0, f1] := Array.toList_inj.1 hf
  rw [hfa] at hu
  obtain ⟨xs, n, rfl, hx, hlen, hn, hel⟩ := DataW.trod_struct hu h
  have c0 : Try.prog.cellsOf 22 = 1 := by kernel_rfl
  have c1 : Try.prog.cellsOf 25 = 5 := by kernel_rfl
  have cT : Try.prog.cellsOf 27 = 6 := by kernel_rfl
  rw [cT] at hlen
  have h0 := hel 0 f0 rfl
  have h1 := hel 1 f1 rfl
  rw [t0, o0, c0] at h0
  rw [t1, o1, c1] at h1
  have hxs : ∀ i, i < 2 → ∃ y, xs[i]? = some y := fun i hi => ⟨_, List.getElem?_eq_getElem (by rw [hn]; exact hi)⟩
  obtain ⟨y0, hy0⟩ := hxs 0 (by omega)
  obtain ⟨y1, hy1⟩ := hxs 1 (by omega)
  rw [hy0] at h0
  rw [hy1] at h1
  obtain ⟨m, e0, _, w1⟩ := DataW.trod_int Try.underlying22 h0
  obtain ⟨L, ds, e1, hL, hl, hlt⟩ := ring_of h1
  simp [Lit.wf, IntKind.min, IntKind.max, IntKind.signed, IntKind.bits] at w1
  refine ⟨m.toNat, L, ds, ?_, by omega, hL, hl, hlt⟩
  have hm : ((m.toNat : Nat) : Int) = m := by omega
  have s0 : cs = cs.take 1 ++ cs.drop 1 := (List.take_append_drop 1 cs).symm
  have s1 : cs.drop 1 = (cs.drop 1).take 5 := (List.take_of_length_le (by rw [List.length_drop]; omega)).symm
  rw [List.drop_zero] at e0
  unfold wcs
  rw [s0, e0, s1, e1, hm]
  rfl
end
end Go.Proofs.Ytbbmjjphkmjnbaa.Wn
