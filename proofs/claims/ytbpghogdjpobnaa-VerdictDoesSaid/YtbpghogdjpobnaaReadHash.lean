/-
  Arguments that came in, opened: a digest. Over this seat's translation.
-/
import Derived.Test.YtbpghogdjpobnaaBytAll
import Derived.Deep.Slices
import Derived.ProofKit
import Derived.OpenShut
namespace Go.Proofs.Ytbpghogdjpobnaa.Tg
open Go.ChangeShapes Go.WideShapes Go.ChangeAt Go.RowKit Go.Proofs.Ytbpghogdjpobnaa.Mem Go.Proofs.Ytbpghogdjpobnaa.Bt
set_option linter.unusedVariables false

section
variable {H : Type} {enc : TypeId × Value → H} {w : World} {base : Nat} {spare : Nat → Bool} {held : Bool} {fuel : Nat} {cs : List Value} {x : DataW H × List MemPlace}
/-- A digest. -/
theorem hash_of {t : TypeId} (hu : Try.prog.underlying t = some (.array 32 5)) (hc : Try.prog.cellsOf t = 32) (h : DataW.trod enc Try.prog w base spare held fuel t cs = some x) : ∃ hh : List Nat, cs = u8s hh ∧ hh.length = 32 ∧ AllLt 256 hh := by
  obtain ⟨xs, m, rfl, hx, hlen, hn, hel⟩ := DataW.trod_array hu h
  have c1 : Try.prog.cellsOf 5 = 1 := by kernel_rfl
  rw [hc] at hlen
  obtain ⟨f, hf⟩ := Deep.choose_lt (α := Nat) (n := 32) (p := fun i n => cs[i]? = some (.int .u8 (n : Int)) ∧ n < 256) (fun i hi => by
    have h1 := hel i hi
    rw [c1, Nat.mul_one] at h1
    obtain ⟨y, hy⟩ : ∃ y, xs[i]? = some y := ⟨_, List.getElem?_eq_getElem (by omega)⟩
    rw [hy] at h1
    obtain ⟨n, e1, e2, hwf⟩ := DataW.trod_int Try.underlying5 h1
    have h3 : cs[i]? = some (.int .u8 n) := by
      have := congrArg (fun l => l[0]?) e1
      simp only [List.getElem?_take, List.getElem?_drop] at this
      simpa using this
    simp [Lit.wf, IntKind.min, IntKind.max, IntKind.signed, IntKind.bits] at hwf
    refine ⟨n.toNat, ?_, by omega⟩
    rw [h3, Int.toNat_of_nonneg (by omega)])
  refine ⟨(List.range 32).map f, ?_, by simp, ?_⟩
  · apply List.ext_getElem?
    intro i
    by_cases hi : i < 32
    · rw [(hf i hi).1]
      unfold u8s
      rw [List.getElem?_map, List.getElem?_map, List.getElem?_range hi]
      rfl
    · rw [List.getElem?_eq_none (by omega), List.getElem?_eq_none (by rw [u8s_length]; simp; omega)]
  · intro y hy
    obtain ⟨i, hi, rfl⟩ := List.mem_map.1 hy
    exact (hf i (List.mem_range.1 hi)).2
end
end Go.Proofs.Ytbpghogdjpobnaa.Tg
