/-
  MessageTells, of package message (promises P17.1, P17.2): for every message and every bytes (names and bytes of up to 1000, as the statement has it; beyond that the law looks no further) whether the message may be, its bytes, or why there are none, and the message that the bytes are read as, or why there is none, are those of the document; the call returns true, and its arguments read afterwards as before. No condition.
-/
import Derived.Test.YtghogoijjaiccaaRows
import Derived.Test.YtghogoijjaiccaaMsgLaws
import Derived.Test.YtghogoijjaiccaaEpoReads
import Derived.Test.YtghogoijjaiccaaAccReads
import Derived.Test.YtghogoijjaiccaaMsgMem
import Derived.WalkKit
import Derived.ProofKit
import Derived.OpenShut
namespace Go.Proofs.Ytghogoijjaiccaa.messageTells
open Go.ChangeShapes Go.WideShapes Go.ChangeAt Go.WideMaps Go.WideElems Go.ChangeMaps Go.RowKit Go.Proofs.Ytghogoijjaiccaa.Bt Go.Proofs.Ytghogoijjaiccaa.Ac Go.Proofs.Ytghogoijjaiccaa.Tr Go.Proofs.Ytghogoijjaiccaa.Pf Go.Proofs.Ytghogoijjaiccaa.Ms
set_option linter.unusedVariables false
set_option linter.unusedSimpArgs false

theorem own : ownKnob Try.prog.godebug = none := by kernel_rfl
theorem laidOut : laidOutB Try.prog = true := by kernel_rfl
set_option maxRecDepth 100000 in
theorem lifted (os : Os) (started : os.Started) (H : Type) (enc : TypeId × Value → H) :
    ReturnsInHanded {} Try.checked os 3 .any (Rows.messageTellsSpec.pre6 enc Try.prog Try.f3 Rows.messageTellsRow.domain false) (Rows.messageTellsSpec.post enc Try.prog Try.f3 false true false false) := by
  refine returnsInHanded_of_change (C := Try.checked) own started (by kernel_rfl) Try.func3
    (ChangeSpec.witness6 (enc := enc) (C := Try.checked) false ⟨#[], #[.agg (Ms.mcs Ms.zm).toArray, .slice none 0 0], []⟩ 8 (by kernel_rfl) (by kernel_rfl) (by kernel_rfl) (by kernel_rfl)) ?_
  intro W base args ds gs before hval0 hW hcnd _
  have hval : ∀ (j : Nat) t v, Try.f3.params[j]? = some t → args[j]? = some v → Value.okWide Try.prog W .any base t v := hval0
  have hW' := hW
  obtain ⟨p, q, hA0, hV, rfl, hfz, hnd⟩ := hW
  have hA : DataW.TrodAll enc Try.prog W 0 (fun _ => true) true Try.f3.params.toList args.toList ds p := hA0
  rw [Try.params3] at hA hval
  obtain ⟨v0, v1, e0, e1, p0, p1, rfl, rfl, rfl, h0, h1⟩ := trodAll_two hA
  obtain ⟨rfl, rfl⟩ := trodVars_none hV
  clear hA0 hval0
  have h0k := h0
  obtain ⟨fuel0, h0t⟩ := h0
  obtain ⟨m0, hcs0, km0⟩ := Ms.msg_of h0t
  obtain ⟨xs0, rfl, hsz0⟩ := okWide_struct Ms.msg_und (hval 0 42 v0 rfl rfl)
  obtain rfl : xs0 = (Ms.mcs m0).toArray := by
    have e : xs0.toList = Ms.mcs m0 := hcs0
    rw [← e]
  have h1k := h1
  obtain ⟨fuel1, h1t⟩ := h1
  obtain ⟨P1, c1, b1, hcs1, hcm1⟩ := came_of h1t
  obtain ⟨a1, n1, cc1, rfl⟩ := okWide_slice Try.underlying43 (hval 1 43 v1 rfl rfl)
  obtain ⟨rfl, rfl, rfl⟩ : a1 = P1 ∧ n1 = b1.length ∧ cc1 = c1 := by simpa [Value.cells] using hcs1
  simp only [List.append_nil, List.nil_append] at hW'
  refine (messageTells_any m0 b1 a1 cc1 W km0 hcm1).mono fun e W' ⟨he, hB⟩ => ?_
  subst he
  exact ⟨_, rfl, _, _, _, [], p0 ++ p1, [], hW', trodAll_mk1 (shut_bool Try.underlying4 _), trodAll_mk2 (Below.trod laidOut (by kernel_rfl) (of_decide_eq_true (by kernel_rfl)) h0k hB (fun x hx => hW'.lt x (by simp [hx]))) (Below.trod laidOut (by kernel_rfl) (of_decide_eq_true (by kernel_rfl)) h1k hB (fun x hx => hW'.lt x (by simp [hx]))), rfl, hB.frame _, fun h => by cases h⟩
theorem over : Rows.messageTellsRow.holds Try.pinned (OpenSpec.ofChange Rows.messageTellsSpec) :=
  OpenClaim.holds_of_wide 3 Try.f3 rfl rfl rfl rfl rfl rfl rfl ⟨rfl, rfl, rfl, rfl, rfl⟩ rfl rfl rfl rfl rfl (by kernel_rfl) Try.func3 (by kernel_rfl)
    (of_decide_eq_true (by kernel_rfl)) (by unfold Func.isWrapper; first | (rw [if_pos (by decide +kernel)]; kernel_rfl) | (rw [if_neg (by decide +kernel)]; exact ⟨rfl, rfl⟩))
    (fun os started H enc _ => lifted os started H enc)
/-- ████ THE STATEMENT ████ -/
theorem proved : Rows.MessageTellsSaid :=
  over
#print axioms proved
end Go.Proofs.Ytghogoijjaiccaa.messageTells
