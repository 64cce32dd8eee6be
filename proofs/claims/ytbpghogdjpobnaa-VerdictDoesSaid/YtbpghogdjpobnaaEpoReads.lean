/-
  Arguments that came in, opened: digests, an epoch's data, pairs, blocks. Over this seat's translation.
-/
import Derived.Test.YtbpghogdjpobnaaEpoAll
import Derived.Test.YtbpghogdjpobnaaReadHash
import Derived.Test.YtbpghogdjpobnaaFitAll
namespace Go.Proofs.Ytbpghogdjpobnaa.Ep
open Go.ChangeShapes Go.WideShapes Go.ChangeAt Go.RowKit Go.Proofs.Ytbpghogdjpobnaa.Mem Go.Proofs.Ytbpghogdjpobnaa.Bt Go.Proofs.Ytbpghogdjpobnaa.Tg
set_option linter.unusedVariables false

theorem okWide_arr {P : Program} {w : World} {r : Reach} {base n : Nat} {t e : TypeId} {v : Value} (ht : P.underlying t = some (.array n e)) (h : Value.okWide P w r base t v) : ∃ cs, v = .agg cs := by
  simp only [Value.okWide, ht] at h
  obtain ⟨cs, h1, _⟩ := h
  exact ⟨cs, h1⟩
section
variable {H : Type} {enc : TypeId × Value → H} {w : World} {base : Nat} {spare : Nat → Bool} {held : Bool} {fuel : Nat} {cs : List Value} {x : DataW H × List MemPlace}
end
end Go.Proofs.Ytbpghogdjpobnaa.Ep
