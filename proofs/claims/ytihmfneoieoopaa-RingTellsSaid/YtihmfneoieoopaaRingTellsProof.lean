/-
  RingTells, of package ring (promises P6.1, P6.2): for every ring (any sub-window and any four counts of 32 bits) and every sub-window of 32 bits, whether the ring may be, the first ring, how many blocks a ring that may be has, how many are ahead of the sub-window, or why not, and the ring with one block more, or why not, are those of the document; the call returns true, and its arguments read afterwards as before. No condition.
-/
import Derived.Test.YtihmfneoieoopaaRows
import Derived.Test.YtihmfneoieoopaaBounds
import Derived.Test.YtihmfneoieoopaaRingReads
import Derived.Test.YtihmfneoieoopaaRingLaws
import Derived.WalkKit
import Derived.ProofKit
import Derived.OpenShut
namespace Go.Proofs.Ytihmfneoieoopaa.ringTells
open Go.ChangeShapes Go.WideShapes Go.ChangeAt Go.WideMaps Go.WideElems Go.ChangeMaps Go.RowKit Go.Proofs.Ytihmfneoieoopaa.Bt Go.Proofs.Ytihmfneoieoopaa.Rg
set_option linter.unusedVariables false
set_option linter.unusedSimpArgs false

theorem own : ownKnob Try.prog.godebug = none := by kernel_rfl
theorem laidOut : laidOutB Try.prog = true := by kernel_rfl
set_option maxRecDepth 100000 in
theorem lifted (os : Os) (started : os.Started) (H : Type) (enc : TypeId × Value → H) :
    ReturnsInHanded {} Try.checked os 3 .any (Rows.ringTellsSpec.pre6 enc Try.prog Try.f3 Rows.ringTellsRow.domain false) (Rows.ringTellsSpec.post enc Try.prog Try.f3 false true false false) := by
  refine returnsInHanded_of_change (C := Try.checked) own started (by kernel_rfl) Try.func3
    (ChangeSpec.witness6 (enc := enc) (C := Try.checked) false ⟨#[], #[.agg #[.int .u32 0, .int .u32 0, .int .u32 0, .int .u32 0, .int .u32 0], .int .u32 0], []⟩ 8 (by kernel_rfl) (by kernel_rfl) (by kernel_rfl) (by kernel_rfl)) ?_
  intro W base args ds gs before hval0 hW hcnd _
  have hval : ∀ (j : Nat) t v, Try.f3.params[j]? = some t → args[j]? = some v → Value.okWide Try.prog W .any base t v := hval0
  have hW' := hW
  obtain ⟨p, q, hA0, hV, rfl, hfz, hnd⟩ := hW
  have hA : DataW.TrodAll enc Try.prog W 0 (fun _ => true) true Try.f3.params.toList args.toList ds p := hA0
  rw [Try.params3] at hA hval
  obtain ⟨v0, v1, d0, d1, p0, p1, rfl, rfl, rfl, h0, h1⟩ := trodAll_two hA
  obtain ⟨rfl, rfl⟩ := trodVars_none hV
  clear hA0 hval0
  have h0k := h0
  obtain ⟨fuel0, h0t⟩ := h0
  obtain ⟨L0, cs0, hcs0, hL0, hl0, hc0⟩ := Rg.ring_of h0t
  obtain ⟨xs0, rfl, hsz0⟩ := okWide_struct Rg.ring_und (hval 0 25 v0 rfl rfl)
  obtain rfl : xs0 = (Rg.rcs L0 cs0).toArray := by
    have e : xs0.toList = Rg.rcs L0 cs0 := hcs0
    rw [← e]
  obtain ⟨r1, rfl, rfl, rfl, w1⟩ := open_int Try.underlying22 (hval 1 22 v1 rfl rfl) h1
  have k1 := Bounds.u32_bd w1
  obtain ⟨n1, rfl⟩ : ∃ n : Nat, r1 = (n : Int) := ⟨r1.toNat, by omega⟩
  have hn1 : n1 < 4294967296 := by omega
  simp only [List.append_nil, List.nil_append] at hW'
  refine (ringTells_any L0 n1 cs0 W hL0 hn1 hc0 hl0).mono fun e W' ⟨he, hB⟩ => ?_
  subst he
  exact ⟨_, rfl, _, _, _, [], p0 ++ [], [], hW', trodAll_mk1 (shut_bool Try.underlying4 _), trodAll_mk2 (Below.trod laidOut (by kernel_rfl) (of_decide_eq_true (by kernel_rfl)) h0k hB (fun x hx => hW'.lt x (by simp [hx]))) (shut_int Try.underlying22 w1), rfl, hB.frame _, fun h => by cases h⟩

theorem over : Rows.ringTellsRow.holds Try.pinned (OpenSpec.ofChange Rows.ringTellsSpec) :=
  OpenClaim.holds_of_wide 3 Try.f3 rfl rfl rfl rfl rfl rfl rfl ⟨rfl, rfl, rfl, rfl, rfl⟩ rfl rfl rfl rfl rfl (by kernel_rfl) Try.func3 (by kernel_rfl)
    (of_decide_eq_true (by kernel_rfl)) (by unfold Func.isWrapper; first | (rw [if_pos (by decide +kernel)]; kernel_rfl) | (rw [if_neg (by decide +kernel)]; exact ⟨rfl, rfl⟩))
    (fun os started H enc _ => lifted os started H enc)

/-- ████ THE STATEMENT ████ -/
theorem proved : Rows.RingTellsSaid :=
  over
#print axioms proved
end Go.Proofs.Ytihmfneoieoopaa.ringTells
