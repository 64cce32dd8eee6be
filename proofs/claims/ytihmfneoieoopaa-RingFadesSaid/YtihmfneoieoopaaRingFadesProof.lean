/-
  RingFades, of package ring (promise P6.3): for every ring, if it may be and its last sub-window is at most 2^32-10, all its blocks are ahead of the sub-window behind, never more ahead of a later one (up to eight behind), and none where it is more than a window behind; the call returns true, and its argument reads afterwards as before. No condition.
-/
import Derived.Test.YtihmfneoieoopaaRows
import Derived.Test.YtihmfneoieoopaaBounds
import Derived.Test.YtihmfneoieoopaaRingReads
import Derived.Test.YtihmfneoieoopaaRingLaws2
import Derived.WalkKit
import Derived.ProofKit
import Derived.OpenShut
namespace Go.Proofs.Ytihmfneoieoopaa.ringFades
open Go.ChangeShapes Go.WideShapes Go.ChangeAt Go.WideMaps Go.WideElems Go.ChangeMaps Go.RowKit Go.Proofs.Ytihmfneoieoopaa.Bt Go.Proofs.Ytihmfneoieoopaa.Rg
set_option linter.unusedVariables false
set_option linter.unusedSimpArgs false

theorem own : ownKnob Try.prog.godebug = none := by kernel_rfl
theorem laidOut : laidOutB Try.prog = true := by kernel_rfl
set_option maxRecDepth 100000 in
theorem lifted (os : Os) (started : os.Started) (H : Type) (enc : TypeId × Value → H) :
    ReturnsInHanded {} Try.checked os 5 .any (Rows.ringFadesSpec.pre6 enc Try.prog Try.f5 Rows.ringFadesRow.domain false) (Rows.ringFadesSpec.post enc Try.prog Try.f5 false true false false) := by
  refine returnsInHanded_of_change (C := Try.checked) own started (by kernel_rfl) Try.func5
    (ChangeSpec.witness6 (enc := enc) (C := Try.checked) false ⟨#[], #[.agg #[.int .u32 0, .int .u32 0, .int .u32 0, .int .u32 0, .int .u32 0]], []⟩ 8 (by kernel_rfl) (by kernel_rfl) (by kernel_rfl) (by kernel_rfl)) ?_
  intro W base args ds gs before hval0 hW hcnd _
  have hval : ∀ (j : Nat) t v, Try.f5.params[j]? = some t → args[j]? = some v → Value.okWide Try.prog W .any base t v := hval0
  have hW' := hW
  obtain ⟨p, q, hA0, hV, rfl, hfz, hnd⟩ := hW
  have hA : DataW.TrodAll enc Try.prog W 0 (fun _ => true) true Try.f5.params.toList args.toList ds p := hA0
  rw [Try.params5] at hA hval
  obtain ⟨v0, d0, rfl, rfl, h0⟩ := trodAll_one hA
  obtain ⟨rfl, rfl⟩ := trodVars_none hV
  clear hA0 hval0
  have h0k := h0
  obtain ⟨fuel0, h0t⟩ := h0
  obtain ⟨L0, cs0, hcs0, hL0, hl0, hc0⟩ := Rg.ring_of h0t
  obtain ⟨xs0, rfl, hsz0⟩ := okWide_struct Rg.ring_und (hval 0 25 v0 rfl rfl)
  obtain rfl : xs0 = (Rg.rcs L0 cs0).toArray := by
    have e : xs0.toList = Rg.rcs L0 cs0 := hcs0
    rw [← e]
  simp only [List.append_nil, List.nil_append] at hW'
  refine (ringFades_any L0 cs0 W hL0 hl0).mono fun e W' ⟨he, hB⟩ => ?_
  subst he
  exact ⟨_, rfl, _, _, _, [], p, [], hW', trodAll_mk1 (shut_bool Try.underlying4 _), trodAll_mk1 (Below.trod laidOut (by kernel_rfl) (of_decide_eq_true (by kernel_rfl)) h0k hB (fun x hx => hW'.lt x (by simp [hx]))), rfl, hB.frame _, fun h => by cases h⟩

theorem over : Rows.ringFadesRow.holds Try.pinned (OpenSpec.ofChange Rows.ringFadesSpec) :=
  OpenClaim.holds_of_wide 5 Try.f5 rfl rfl rfl rfl rfl rfl rfl ⟨rfl, rfl, rfl, rfl, rfl⟩ rfl rfl rfl rfl rfl (by kernel_rfl) Try.func5 (by kernel_rfl)
    (of_decide_eq_true (by kernel_rfl)) (by unfold Func.isWrapper; first | (rw [if_pos (by decide +kernel)]; kernel_rfl) | (rw [if_neg (by decide +kernel)]; exact ⟨rfl, rfl⟩))
    (fun os started H enc _ => lifted os started H enc)

/-- ████ THE STATEMENT ████ -/
theorem proved : Rows.RingFadesSaid :=
  over
#print axioms proved
end Go.Proofs.Ytihmfneoieoopaa.ringFades
