/-
  WindowLeast, of package window (promise P7.3): for every list of steps of 32 bits (up to 200 of them, as the statement has it; beyond that the law looks no further), of blocks in the slots that the steps lead to, from slot 0 on, Min is after each block the least of all windows that are looked at, counted in the whole history, and the window state may be; the call returns true, and its argument reads afterwards as before. No condition.
-/
import Derived.Test.YtbbmjjphkmjnbaaRows
import Derived.Test.YtbbmjjphkmjnbaaBounds
import Derived.Test.YtbbmjjphkmjnbaaWinReads
import Derived.Test.YtbbmjjphkmjnbaaWinLaws3
import Derived.WalkKit
import Derived.ProofKit
import Derived.OpenShut
namespace Go.Proofs.Ytbbmjjphkmjnbaa.windowLeast
open Go.ChangeShapes Go.WideShapes Go.ChangeAt Go.WideMaps Go.WideElems Go.ChangeMaps Go.RowKit Go.Proofs.Ytbbmjjphkmjnbaa.Bt Go.Proofs.Ytbbmjjphkmjnbaa.Rg Go.Proofs.Ytbbmjjphkmjnbaa.Wn
set_option linter.unusedVariables false
set_option linter.unusedSimpArgs false

theorem own : ownKnob Try.prog.godebug = none := by kernel_rfl
theorem laidOut : laidOutB Try.prog = true := by kernel_rfl
set_option maxRecDepth 100000 in
theorem lifted (os : Os) (started : os.Started) (H : Type) (enc : TypeId × Value → H) :
    ReturnsInHanded {} Try.checked os 4 .any (Rows.windowLeastSpec.pre6 enc Try.prog Try.f4 Rows.windowLeastRow.domain false) (Rows.windowLeastSpec.post enc Try.prog Try.f4 false true false false) := by
  refine returnsInHanded_of_change (C := Try.checked) own started (by kernel_rfl) Try.func4
    (ChangeSpec.witness6 (enc := enc) (C := Try.checked) false ⟨#[], #[.slice none 0 0], []⟩ 8 (by kernel_rfl) (by kernel_rfl) (by kernel_rfl) (by kernel_rfl)) ?_
  intro W base args ds gs before hval0 hW hcnd _
  have hval : ∀ (j : Nat) t v, Try.f4.params[j]? = some t → args[j]? = some v → Value.okWide Try.prog W .any base t v := hval0
  have hW' := hW
  obtain ⟨p, q, hA0, hV, rfl, hfz, hnd⟩ := hW
  have hA : DataW.TrodAll enc Try.prog W 0 (fun _ => true) true Try.f4.params.toList args.toList ds p := hA0
  rw [Try.params4] at hA hval
  obtain ⟨v0, d0, rfl, rfl, h0⟩ := trodAll_one hA
  obtain ⟨rfl, rfl⟩ := trodVars_none hV
  clear hA0 hval0
  have h0k := h0
  obtain ⟨fuel0, h0t⟩ := h0
  obtain ⟨P0, cc0, xs0, hcs0, hcame0⟩ := Wd.came32_of h0t
  obtain ⟨a0, l0, c0, rfl⟩ := okWide_slice Try.underlying45 (hval 0 45 v0 rfl rfl)
  obtain ⟨rfl, rfl, rfl⟩ : a0 = P0 ∧ l0 = xs0.length ∧ c0 = cc0 := by simpa [Value.cells] using hcs0
  simp only [List.append_nil, List.nil_append] at hW'
  refine (windowLeast_any xs0 a0 c0 W hcame0).mono fun e W' ⟨he, hB⟩ => ?_
  subst he
  exact ⟨_, rfl, _, _, _, [], p, [], hW', trodAll_mk1 (shut_bool Try.underlying4 _), trodAll_mk1 (Below.trod laidOut (by kernel_rfl) (of_decide_eq_true (by kernel_rfl)) h0k hB (fun x hx => hW'.lt x (by simp [hx]))), rfl, hB.frame _, fun h => by cases h⟩

theorem over : Rows.windowLeastRow.holds Try.pinned (OpenSpec.ofChange Rows.windowLeastSpec) :=
  OpenClaim.holds_of_wide 4 Try.f4 rfl rfl rfl rfl rfl rfl rfl ⟨rfl, rfl, rfl, rfl, rfl⟩ rfl rfl rfl rfl rfl (by kernel_rfl) Try.func4 (by kernel_rfl)
    (of_decide_eq_true (by kernel_rfl)) (by unfold Func.isWrapper; first | (rw [if_pos (by decide +kernel)]; kernel_rfl) | (rw [if_neg (by decide +kernel)]; exact ⟨rfl, rfl⟩))
    (fun os started H enc _ => lifted os started H enc)

/-- ████ THE STATEMENT ████ -/
theorem proved : Rows.WindowLeastSaid :=
  over
#print axioms proved
end Go.Proofs.Ytbbmjjphkmjnbaa.windowLeast
