/-
  MessageBack, of package message (promise P17.3): of any two messages and any bytes (names and bytes of up to 1000, as the statement has it; beyond that the law looks no further) a message that may be comes back from its bytes, with a byte behind, or without the last one, none comes, unlike ones have unlike bytes, one that may not be has none; bytes that are read come back from their message; the call returns true, and its arguments read afterwards as before. No condition.
-/
import Derived.Test.YtghogoijjaiccaaRows
import Derived.Test.YtghogoijjaiccaaMsgLaws2
import Derived.Test.YtghogoijjaiccaaEpoReads
import Derived.Test.YtghogoijjaiccaaAccReads
import Derived.Test.YtghogoijjaiccaaMsgMem
import Derived.WalkKit
import Derived.ProofKit
import Derived.OpenShut
namespace Go.Proofs.Ytghogoijjaiccaa.messageBack
open Go.ChangeShapes Go.WideShapes Go.ChangeAt Go.WideMaps Go.WideElems Go.ChangeMaps Go.RowKit Go.Proofs.Ytghogoijjaiccaa.Bt Go.Proofs.Ytghogoijjaiccaa.Ac Go.Proofs.Ytghogoijjaiccaa.Tr Go.Proofs.Ytghogoijjaiccaa.Pf Go.Proofs.Ytghogoijjaiccaa.Ms
set_option linter.unusedVariables false
set_option linter.unusedSimpArgs false

theorem own : ownKnob Try.prog.godebug = none := by kernel_rfl
theorem laidOut : laidOutB Try.prog = true := by kernel_rfl
set_option maxRecDepth 100000 in
theorem lifted (os : Os) (started : os.Started) (H : Type) (enc : TypeId × Value → H) :
    ReturnsInHanded {} Try.checked os 4 .any (Rows.messageBackSpec.pre6 enc Try.prog Try.f4 Rows.messageBackRow.domain false) (Rows.messageBackSpec.post enc Try.prog Try.f4 false true false false) := by
  refine returnsInHanded_of_change (C := Try.checked) own started (by kernel_rfl) Try.func4
    (ChangeSpec.witness6 (enc := enc) (C := Try.checked) false ⟨#[], #[.agg (Ms.mcs Ms.zm).toArray, .agg (Ms.mcs Ms.zm).toArray, .slice none 0 0], []⟩ 8 (by kernel_rfl) (by kernel_rfl) (by kernel_rfl) (by kernel_rfl)) ?_
  intro W base args ds gs before hval0 hW hcnd _
  have hval : ∀ (j : Nat) t v, Try.f4.params[j]? = some t → args[j]? = some v → Value.okWide Try.prog W .any base t v := hval0
  have hW' := hW
  obtain ⟨p, q, hA0, hV, rfl, hfz, hnd⟩ := hW
  have hA : DataW.TrodAll enc Try.prog W 0 (fun _ => true) true Try.f4.params.toList args.toList ds p := hA0
  rw [Try.params4] at hA hval
  obtain ⟨v0, v1, v2, e0, e1, e2, p0, p1, p2, rfl, rfl, rfl, h0, h1, h2⟩ := trodAll_three hA
  obtain ⟨rfl, rfl⟩ := trodVars_none hV
  clear hA0 hval0
  have h0k := h0
  obtain ⟨fuel0, h0t⟩ := h0
  obtain ⟨m0, hcs0, km0⟩ := Ms.msg_of h0t
  obtain ⟨xs0, rfl, hsz0⟩ := okWide_struct Ms.msg_und (hval 0 42 v0 rfl rfl)
  obtain rfl : xs0 = (Ms.mcs m0).toArray := by
    have e : xs0.toList = Ms.mcs m0 := hcs0
    rw [← e]
  have h1k := h1
  obtain ⟨fuel1, h1t⟩ := h1
  obtain ⟨m1, hcs1, km1⟩ := Ms.msg_of h1t
  obtain ⟨xs1, rfl, hsz1⟩ := okWide_struct Ms.msg_und (hval 1 42 v1 rfl rfl)
  obtain rfl : xs1 = (Ms.mcs m1).toArray := by
    have e : xs1.toList = Ms.mcs m1 := hcs1
    rw [← e]
  have h2k := h2
  obtain ⟨fuel2, h2t⟩ := h2
  obtain ⟨P2, c2, b2, hcs2, hcm2⟩ := came_of h2t
  obtain ⟨a2, n2, cc2, rfl⟩ := okWide_slice Try.underlying43 (hval 2 43 v2 rfl rfl)
  obtain ⟨rfl, rfl, rfl⟩ : a2 = P2 ∧ n2 = b2.length ∧ cc2 = c2 := by simpa [Value.cells] using hcs2
  simp only [List.append_nil, List.nil_append] at hW'
  refine (messageBack_any m0 m1 b2 a2 cc2 W km0 km1 hcm2).mono fun e W' ⟨he, hB⟩ => ?_
  subst he
  exact ⟨_, rfl, _, _, _, [], p0 ++ (p1 ++ p2), [], hW', trodAll_mk1 (shut_bool Try.underlying4 _), trodAll_mk3 (Below.trod laidOut (by kernel_rfl) (of_decide_eq_true (by kernel_rfl)) h0k hB (fun x hx => hW'.lt x (by simp [hx]))) (Below.trod laidOut (by kernel_rfl) (of_decide_eq_true (by kernel_rfl)) h1k hB (fun x hx => hW'.lt x (by simp [hx]))) (Below.trod laidOut (by kernel_rfl) (of_decide_eq_true (by kernel_rfl)) h2k hB (fun x hx => hW'.lt x (by simp [hx]))), rfl, hB.frame _, fun h => by cases h⟩
theorem over : Rows.messageBackRow.holds Try.pinned (OpenSpec.ofChange Rows.messageBackSpec) :=
  OpenClaim.holds_of_wide 4 Try.f4 rfl rfl rfl rfl rfl rfl rfl ⟨rfl, rfl, rfl, rfl, rfl⟩ rfl rfl rfl rfl rfl (by kernel_rfl) Try.func4 (by kernel_rfl)
    (of_decide_eq_true (by kernel_rfl)) (by unfold Func.isWrapper; first | (rw [if_pos (by decide +kernel)]; kernel_rfl) | (rw [if_neg (by decide +kernel)]; exact ⟨rfl, rfl⟩))
    (fun os started H enc _ => lifted os started H enc)
/-- ████ THE STATEMENT ████ -/
theorem proved : Rows.MessageBackSaid :=
  over
#print axioms proved
end Go.Proofs.Ytghogoijjaiccaa.messageBack
