/-
  VerdictLast, of package verdict (promises P18.2, P18.3): of any room, of digests that come, each once, the last ones, as many as there is room for, are known, in order; all others are given up, the first one first (up to 300 digests, as the statement has it; beyond that the law looks no further); the call returns true, and its arguments read afterwards as before. No condition.
-/
import Derived.Test.YtbpghogdjpobnaaRows
import Derived.Test.YtbpghogdjpobnaaVerLaws3
import Derived.Test.YtbpghogdjpobnaaEpoReads
import Derived.WalkKit
import Derived.ProofKit
import Derived.OpenShut
namespace Go.Proofs.Ytbpghogdjpobnaa.verdictLast
open Go.ChangeShapes Go.WideShapes Go.ChangeAt Go.WideMaps Go.WideElems Go.ChangeMaps Go.RowKit Go.Proofs.Ytbpghogdjpobnaa.Bt Go.Proofs.Ytbpghogdjpobnaa.Km Go.Proofs.Ytbpghogdjpobnaa.Vd
set_option linter.unusedVariables false
set_option linter.unusedSimpArgs false

theorem own : ownKnob Try.prog.godebug = none := by kernel_rfl
theorem laidOut : laidOutB Try.prog = true := by kernel_rfl
set_option maxRecDepth 100000 in
theorem lifted (os : Os) (started : os.Started) (H : Type) (enc : TypeId × Value → H) :
    ReturnsInHanded {} Try.checked os 5 .any (Rows.verdictLastSpec.pre6 enc Try.prog Try.f5 Rows.verdictLastRow.domain false) (Rows.verdictLastSpec.post enc Try.prog Try.f5 false true false false) := by
  refine returnsInHanded_of_change (C := Try.checked) own started (by kernel_rfl) Try.func5
    (ChangeSpec.witness6 (enc := enc) (C := Try.checked) false ⟨#[], #[.int .i64 0, .slice none 0 0], []⟩ 8 (by kernel_rfl) (by kernel_rfl) (by kernel_rfl) (by kernel_rfl)) ?_
  intro W base args ds gs before hval0 hW hcnd _
  have hval : ∀ (j : Nat) t v, Try.f5.params[j]? = some t → args[j]? = some v → Value.okWide Try.prog W .any base t v := hval0
  have hW' := hW
  obtain ⟨p, q, hA0, hV, rfl, hfz, hnd⟩ := hW
  have hA : DataW.TrodAll enc Try.prog W 0 (fun _ => true) true Try.f5.params.toList args.toList ds p := hA0
  rw [Try.params5] at hA hval
  obtain ⟨v0, v1, e0, e1, p0, p1, rfl, rfl, rfl, h0, h1⟩ := trodAll_two hA
  obtain ⟨rfl, rfl⟩ := trodVars_none hV
  clear hA0 hval0
  obtain ⟨r0, rfl, rfl, rfl, w0⟩ := open_int Try.underlying3 (hval 0 3 v0 rfl rfl) h0
  have kr0 : -9223372036854775808 ≤ r0 ∧ r0 ≤ 9223372036854775807 := by have h := w0; simp [Lit.wf, IntKind.min, IntKind.max, IntKind.signed, IntKind.bits] at h; omega
  have h1k := h1
  obtain ⟨fuel1, h1t⟩ := h1
  obtain ⟨P1, l1, cc1, hcs1, hs1, hm1, hcap1⟩ := Sl.at_of Vd.fH (fun h => Vd.hh_of h) (by kernel_rfl) h1t
  obtain ⟨a1, n1, cx1, rfl⟩ := okWide_slice Vd.fH.und (hval 1 44 v1 rfl rfl)
  obtain ⟨rfl, rfl, rfl⟩ : a1 = P1 ∧ n1 = l1.length ∧ cx1 = cc1 := by simpa [Value.cells] using hcs1
  simp only [List.append_nil, List.nil_append] at hW'
  refine (verdictLast_any r0 l1 a1 cx1 W hs1 kr0).mono fun e W' ⟨he, hB⟩ => ?_
  subst he
  exact ⟨_, rfl, _, _, _, [], [] ++ p1, [], hW', trodAll_mk1 (shut_bool Try.underlying4 _), trodAll_mk2 (shut_int Try.underlying3 w0) (Below.trod laidOut (by kernel_rfl) (of_decide_eq_true (by kernel_rfl)) h1k hB (fun x hx => hW'.lt x (by simp [hx]))), rfl, hB.frame _, fun h => by cases h⟩
theorem over : Rows.verdictLastRow.holds Try.pinned (OpenSpec.ofChange Rows.verdictLastSpec) :=
  OpenClaim.holds_of_wide 5 Try.f5 rfl rfl rfl rfl rfl rfl rfl ⟨rfl, rfl, rfl, rfl, rfl⟩ rfl rfl rfl rfl rfl (by kernel_rfl) Try.func5 (by kernel_rfl)
    (of_decide_eq_true (by kernel_rfl)) (by unfold Func.isWrapper; first | (rw [if_pos (by decide +kernel)]; kernel_rfl) | (rw [if_neg (by decide +kernel)]; exact ⟨rfl, rfl⟩))
    (fun os started H enc _ => lifted os started H enc)
/-- ████ THE STATEMENT ████ -/
theorem proved : Rows.VerdictLastSaid :=
  over
#print axioms proved
end Go.Proofs.Ytbpghogdjpobnaa.verdictLast
