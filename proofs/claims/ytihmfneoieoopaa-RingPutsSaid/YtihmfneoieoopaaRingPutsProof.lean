/-
  RingPuts, of package ring (promise P6.2): for every ring, every number of blocks and every number of sub-windows behind (bytes, as the statement has them), if the ring may be and its last sub-window is at most 2^32-10, blocks that are put into a later sub-window are counted there one by one, as many as it has slots and no more, what is left behind is no longer counted, and each ring on the way may be; the call returns true, and its arguments read afterwards as before. No condition.
-/
import Derived.Test.YtihmfneoieoopaaRows
import Derived.Test.YtihmfneoieoopaaBounds
import Derived.Test.YtihmfneoieoopaaRingReads
import Derived.Test.YtihmfneoieoopaaRingLaws3
import Derived.WalkKit
import Derived.ProofKit
import Derived.OpenShut
namespace Go.Proofs.Ytihmfneoieoopaa.ringPuts
open Go.ChangeShapes Go.WideShapes Go.ChangeAt Go.WideMaps Go.WideElems Go.ChangeMaps Go.RowKit Go.Proofs.Ytihmfneoieoopaa.Bt Go.Proofs.Ytihmfneoieoopaa.Rg
set_option linter.unusedVariables false
set_option linter.unusedSimpArgs false

theorem own : ownKnob Try.prog.godebug = none := by kernel_rfl
theorem laidOut : laidOutB Try.prog = true := by kernel_rfl
set_option maxRecDepth 100000 in
theorem lifted (os : Os) (started : os.Started) (H : Type) (enc : TypeId × Value → H) :
    ReturnsInHanded {} Try.checked os 6 .any (Rows.ringPutsSpec.pre6 enc Try.prog Try.f6 Rows.ringPutsRow.domain false) (Rows.ringPutsSpec.post enc Try.prog Try.f6 false true false false) := by
  refine returnsInHanded_of_change (C := Try.checked) own started (by kernel_rfl) Try.func6
    (ChangeSpec.witness6 (enc := enc) (C := Try.checked) false ⟨#[], #[.agg #[.int .u32 0, .int .u32 0, .int .u32 0, .int .u32 0, .int .u32 0], .int .u8 0, .int .u8 0], []⟩ 8 (by kernel_rfl) (by kernel_rfl) (by kernel_rfl) (by kernel_rfl)) ?_
  intro W base args ds gs before hval0 hW hcnd _
  have hval : ∀ (j : Nat) t v, Try.f6.params[j]? = some t → args[j]? = some v → Value.okWide Try.prog W .any base t v := hval0
  have hW' := hW
  obtain ⟨p, q, hA0, hV, rfl, hfz, hnd⟩ := hW
  have hA : DataW.TrodAll enc Try.prog W 0 (fun _ => true) true Try.f6.params.toList args.toList ds p := hA0
  rw [Try.params6] at hA hval
  obtain ⟨v0, v1, v2, d0, d1, d2, p0, p1, p2, rfl, rfl, rfl, h0, h1, h2⟩ := trodAll_three hA
  obtain ⟨rfl, rfl⟩ := trodVars_none hV
  clear hA0 hval0
  have h0k := h0
  obtain ⟨fuel0, h0t⟩ := h0
  obtain ⟨L0, cs0, hcs0, hL0, hl0, hc0⟩ := Rg.ring_of h0t
  obtain ⟨xs0, rfl, hsz0⟩ := okWide_struct Rg.ring_und (hval 0 25 v0 rfl rfl)
  obtain rfl : xs0 = (Rg.rcs L0 cs0).toArray := by
    have e : xs0.toList = Rg.rcs L0 cs0 := hcs0
    rw [← e]
  obtain ⟨r1, rfl, rfl, rfl, w1⟩ := open_int Try.underlying5 (hval 1 5 v1 rfl rfl) h1
  have k1 := Bounds.u8_bd w1
  obtain ⟨r2, rfl, rfl, rfl, w2⟩ := open_int Try.underlying5 (hval 2 5 v2 rfl rfl) h2
  have k2 := Bounds.u8_bd w2
  simp only [List.append_nil, List.nil_append] at hW'
  refine (ringPuts_any L0 cs0 r1 r2 W hL0 hl0 k1.1 k1.2 k2.1 k2.2).mono fun e W' ⟨he, hB⟩ => ?_
  subst he
  exact ⟨_, rfl, _, _, _, [], p0 ++ ([] ++ []), [], hW', trodAll_mk1 (shut_bool Try.underlying4 _), trodAll_mk3 (Below.trod laidOut (by kernel_rfl) (of_decide_eq_true (by kernel_rfl)) h0k hB (fun x hx => hW'.lt x (by simp [hx]))) (shut_int Try.underlying5 w1) (shut_int Try.underlying5 w2), rfl, hB.frame _, fun h => by cases h⟩

theorem over : Rows.ringPutsRow.holds Try.pinned (OpenSpec.ofChange Rows.ringPutsSpec) :=
  OpenClaim.holds_of_wide 6 Try.f6 rfl rfl rfl rfl rfl rfl rfl ⟨rfl, rfl, rfl, rfl, rfl⟩ rfl rfl rfl rfl rfl (by kernel_rfl) Try.func6 (by kernel_rfl)
    (of_decide_eq_true (by kernel_rfl)) (by unfold Func.isWrapper; first | (rw [if_pos (by decide +kernel)]; kernel_rfl) | (rw [if_neg (by decide +kernel)]; exact ⟨rfl, rfl⟩))
    (fun os started H enc _ => lifted os started H enc)

/-- ████ THE STATEMENT ████ -/
theorem proved : Rows.RingPutsSaid :=
  over
#print axioms proved
end Go.Proofs.Ytihmfneoieoopaa.ringPuts
