/-
  WindowFalls, of package window (promises P7.2, P7.3): for every window state that may be and every two slots of 32 bits, Min never rises, the least density as of a later slot is never more, and it is what Min will be, came a block in that slot; the call returns true, and its arguments read afterwards as before. No condition.
-/
import Derived.Test.YtbbmjjphkmjnbaaRows
import Derived.Test.YtbbmjjphkmjnbaaBounds
import Derived.Test.YtbbmjjphkmjnbaaWinReads
import Derived.Test.YtbbmjjphkmjnbaaWinLaws2
import Derived.WalkKit
import Derived.ProofKit
import Derived.OpenShut
namespace Go.Proofs.Ytbbmjjphkmjnbaa.windowFalls
open Go.ChangeShapes Go.WideShapes Go.ChangeAt Go.WideMaps Go.WideElems Go.ChangeMaps Go.RowKit Go.Proofs.Ytbbmjjphkmjnbaa.Bt Go.Proofs.Ytbbmjjphkmjnbaa.Rg Go.Proofs.Ytbbmjjphkmjnbaa.Wn
set_option linter.unusedVariables false
set_option linter.unusedSimpArgs false

theorem own : ownKnob Try.prog.godebug = none := by kernel_rfl
theorem laidOut : laidOutB Try.prog = true := by kernel_rfl
set_option maxRecDepth 100000 in
theorem lifted (os : Os) (started : os.Started) (H : Type) (enc : TypeId × Value → H) :
    ReturnsInHanded {} Try.checked os 5 .any (Rows.windowFallsSpec.pre6 enc Try.prog Try.f5 Rows.windowFallsRow.domain false) (Rows.windowFallsSpec.post enc Try.prog Try.f5 false true false false) := by
  refine returnsInHanded_of_change (C := Try.checked) own started (by kernel_rfl) Try.func5
    (ChangeSpec.witness6 (enc := enc) (C := Try.checked) false ⟨#[], #[.agg #[.int .u32 0, .int .u32 0, .int .u32 0, .int .u32 0, .int .u32 0, .int .u32 0], .int .u32 0, .int .u32 0], []⟩ 8 (by kernel_rfl) (by kernel_rfl) (by kernel_rfl) (by kernel_rfl)) ?_
  intro W base args ds gs before hval0 hW hcnd _
  have hval : ∀ (j : Nat) t v, Try.f5.params[j]? = some t → args[j]? = some v → Value.okWide Try.prog W .any base t v := hval0
  have hW' := hW
  obtain ⟨p, q, hA0, hV, rfl, hfz, hnd⟩ := hW
  have hA : DataW.TrodAll enc Try.prog W 0 (fun _ => true) true Try.f5.params.toList args.toList ds p := hA0
  rw [Try.params5] at hA hval
  obtain ⟨v0, v1, v2, d0, d1, d2, p0, p1, p2, rfl, rfl, rfl, h0, h1, h2⟩ := trodAll_three hA
  obtain ⟨rfl, rfl⟩ := trodVars_none hV
  clear hA0 hval0
  have h0k := h0
  obtain ⟨fuel0, h0t⟩ := h0
  obtain ⟨M0, L0, cs0, hcs0, hM0, hL0, hl0, hc0⟩ := Wn.win_of h0t
  obtain ⟨xs0, rfl, hsz0⟩ := okWide_struct Wn.win_und (hval 0 27 v0 rfl rfl)
  obtain rfl : xs0 = (Wn.wcs M0 L0 cs0).toArray := by
    have e : xs0.toList = Wn.wcs M0 L0 cs0 := hcs0
    rw [← e]
  obtain ⟨r1, rfl, rfl, rfl, w1⟩ := open_int Try.underlying22 (hval 1 22 v1 rfl rfl) h1
  have k1 := Bounds.u32_bd w1
  obtain ⟨r2, rfl, rfl, rfl, w2⟩ := open_int Try.underlying22 (hval 2 22 v2 rfl rfl) h2
  have k2 := Bounds.u32_bd w2
  obtain ⟨n1, rfl⟩ : ∃ n : Nat, r1 = (n : Int) := ⟨r1.toNat, by omega⟩
  have hn1 : n1 < 4294967296 := by omega
  obtain ⟨n2, rfl⟩ : ∃ n : Nat, r2 = (n : Int) := ⟨r2.toNat, by omega⟩
  have hn2 : n2 < 4294967296 := by omega
  simp only [List.append_nil, List.nil_append] at hW'
  refine (windowFalls_any M0 L0 n1 n2 cs0 W hM0 hL0 hn1 hn2 hl0).mono fun e W' ⟨he, hB⟩ => ?_
  subst he
  exact ⟨_, rfl, _, _, _, [], p0 ++ ([] ++ []), [], hW', trodAll_mk1 (shut_bool Try.underlying4 _), trodAll_mk3 (Below.trod laidOut (by kernel_rfl) (of_decide_eq_true (by kernel_rfl)) h0k hB (fun x hx => hW'.lt x (by simp [hx]))) (shut_int Try.underlying22 w1) (shut_int Try.underlying22 w2), rfl, hB.frame _, fun h => by cases h⟩

theorem over : Rows.windowFallsRow.holds Try.pinned (OpenSpec.ofChange Rows.windowFallsSpec) :=
  OpenClaim.holds_of_wide 5 Try.f5 rfl rfl rfl rfl rfl rfl rfl ⟨rfl, rfl, rfl, rfl, rfl⟩ rfl rfl rfl rfl rfl (by kernel_rfl) Try.func5 (by kernel_rfl)
    (of_decide_eq_true (by kernel_rfl)) (by unfold Func.isWrapper; first | (rw [if_pos (by decide +kernel)]; kernel_rfl) | (rw [if_neg (by decide +kernel)]; exact ⟨rfl, rfl⟩))
    (fun os started H enc _ => lifted os started H enc)

/-- ████ THE STATEMENT ████ -/
theorem proved : Rows.WindowFallsSaid :=
  over
#print axioms proved
end Go.Proofs.Ytbbmjjphkmjnbaa.windowFalls
