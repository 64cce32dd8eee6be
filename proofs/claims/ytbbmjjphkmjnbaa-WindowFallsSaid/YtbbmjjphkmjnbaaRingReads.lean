/-
  A ring that came in, opened. Over this seat's translation.
-/
import Derived.Test.YtbbmjjphkmjnbaaRingMem
import Derived.Deep.Slices
import Derived.ProofKit
import Derived.OpenShut
namespace Go.Proofs.Ytbbmjjphkmjnbaa.Rg
open Go.ChangeShapes Go.WideShapes Go.ChangeAt Go.RowKit Go.Proofs.Ytbbmjjphkmjnbaa.Mem Go.Proofs.Ytbbmjjphkmjnbaa.Bt
set_option linter.unusedVariables false

section
variable {H : Type} {enc : TypeId × Value → H} {w : World} {base : Nat} {spare : Nat → Bool} {held : Bool} {fuel : Nat} {cs : List Value} {x : DataW H × List MemPlace}
/-- Four numbers. -/
theorem counts_of {t : TypeId} (hu : Try.prog.underlying t = some (.array 4 22)) (hc : Try.prog.cellsOf t = 4) (h : DataW.trod enc Try.prog w base spare held fuel t cs = some x) : ∃ ds : List Nat, cs = u32s ds ∧ ds.length = 4 ∧ AllLt 4294967296 ds := by
  obtain ⟨xs, m, rfl, hx, hlen, hn, hel⟩ := DataW.trod_array hu h
  have c1 : Try.prog.cellsOf 22 = 1 := by kernel_rfl
  rw [hc] at hlen
  obtain ⟨f, hf⟩ := Deep.choose_lt (α := Nat) (n := 4) (p := fun i n => cs[i]? = some (.int .u32 (n : Int)) ∧ n < 4294967296) (fun i hi => by
    have h1 := hel i hi
    rw [c1, Nat.mul_one] at h1
    obtain ⟨y, hy⟩ : ∃ y, xs[i]? = some y := ⟨_, List.getElem?_eq_getElem (by omega)⟩
    rw [hy] at h1
    obtain ⟨n, e1, e2, hwf⟩ := DataW.trod_int Try.underlying22 h1
    have h3 : cs[i]? = some (.int .u32 n) := by
      have := congrArg (fun l => l[0]?) e1
      simp only [List.getElem?_take, List.getElem?_drop] at this
      simpa using this
    simp [Lit.wf, IntKind.min, IntKind.max, IntKind.signed, IntKind.bits] at hwf
    refine ⟨n.toNat, ?_, by omega⟩
    rw [h3, Int.toNat_of_nonneg (by omega)])
  refine ⟨(List.range 4).map f, ?_, by simp, ?_⟩
  · apply List.ext_getElem?
    intro i
    by_cases hi : i < 4
    · rw [(hf i hi).1]
      unfold u32s
      rw [List.getElem?_map, List.getElem?_map, List.getElem?_range hi]
      rfl
    · rw [List.getElem?_eq_none (by omega), List.getElem?_eq_none (by rw [u32s_length]; simp; omega)]
  · intro y hy
    obtain ⟨i, hi, rfl⟩ := List.mem_map.1 hy
    exact (hf i (List.mem_range.1 hi)).2
theorem ring_und : Try.prog.underlying 25 = some (.struct (Try.prog.fieldsOf 25)) := by kernel_rfl
/-- A ring. -/
theorem ring_of (h : DataW.trod enc Try.prog w base spare held fuel 25 cs = some x) : ∃ (L : Nat) (ds : List Nat), cs = rcs L ds ∧ L < 4294967296 ∧ ds.length = 4 ∧ AllLt 4294967296 ds := by
  obtain ⟨f0, f1, hf, _, t0, o0, _, t1, o1⟩ := fields_ring.ex
  have hu := ring_und
  have hfa : Try.prog.fieldsOf 25 = #[f0, f1] := Array.toList_inj.1 hf
  rw [hfa] at hu
  obtain ⟨xs, n, rfl, hx, hlen, hn, hel⟩ := DataW.trod_struct hu h
  have c0 : Try.prog.cellsOf 22 = 1 := by kernel_rfl
  have c1 : Try.prog.cellsOf 23 = 4 := by kernel_rfl
  have cT : Try.prog.cellsOf 25 = 5 := by kernel_rfl
  rw [cT] at hlen
  have h0 := hel 0 f0 rfl
  have h1 := hel 1 f1 rfl
  rw [t0, o0, c0] at h0
  rw [t1, o1, c1] at h1
  have hxs : ∀ i, i < 2 → ∃ y, xs[i]? = some y := fun i hi => ⟨_, List.getElem?_eq_getElem (by rw [hn]; exact hi)⟩
  obtain ⟨y0, hy0⟩ := hxs 0 (by omega)
  obtain ⟨y1, hy1⟩ := hxs 1 (by omega)
  rw [hy0] at h0
  rw [hy1] at h1
  obtain ⟨m, e0, _, w1⟩ := DataW.trod_int Try.underlying22 h0
  obtain ⟨ds, e1, hl, hlt⟩ := counts_of (by kernel_rfl) c1 h1
  simp [Lit.wf, IntKind.min, IntKind.max, IntKind.signed, IntKind.bits] at w1
  refine ⟨m.toNat, ds, ?_, by omega, hl, hlt⟩
  have hm : ((m.toNat : Nat) : Int) = m := by omega
  have s0 : cs = cs.take 1 ++ cs.drop 1 := (List.take_append_drop 1 cs).symm
  have s1 : cs.drop 1 = (cs.drop 1).take 4 := (List.take_of_length_le (by rw [List.length_drop]; omega)).symm
  rw [List.drop_zero] at e0
  unfold rcs
  rw [s0, e0, s1, e1, hm]
  rfl
end
end Go.Proofs.Ytbbmjjphkmjnbaa.Rg
