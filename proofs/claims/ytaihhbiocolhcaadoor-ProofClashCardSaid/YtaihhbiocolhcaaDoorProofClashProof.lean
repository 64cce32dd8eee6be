/-
  ProofClash, of package proof (promises P16.3, P16.4): of any place and any two claims (names of up to 300 bytes, as the statement has it; beyond that the law looks no further) a clash is told just where both accounts may be, their paths lead from the place to one digest, and they aren't the same: two rows of bytes, those of the document's answer, that aren't the same, and have one digest; the call returns true, and its arguments read afterwards as before. Condition: the two package-level tables start as the program's text lays them (the tied card).
-/
import Derived.Test.YtaihhbiocolhcaaDoorRows
import Derived.Test.YtaihhbiocolhcaaDoorTie
import Derived.Test.YtaihhbiocolhcaaDoorCards
import Derived.Test.YtaihhbiocolhcaaDoorPrfLaws2
import Derived.Test.YtaihhbiocolhcaaDoorPrfActs
import Derived.Test.YtaihhbiocolhcaaDoorTab2
import Derived.SevenTiedAt
namespace Go.Proofs.YtaihhbiocolhcaaDoor.proofClash
open Go.ChangeShapes Go.WideShapes Go.ChangeAt Go.WideMaps Go.WideElems Go.ChangeMaps Go.RowKit Go.Proofs.YtaihhbiocolhcaaDoor.Sha Go.Proofs.YtaihhbiocolhcaaDoor.Bt Go.Proofs.YtaihhbiocolhcaaDoor.Ac Go.Proofs.YtaihhbiocolhcaaDoor.Tr Go.Proofs.YtaihhbiocolhcaaDoor.Pf
set_option linter.unusedVariables false
set_option linter.unusedSimpArgs false

theorem own : ownKnob Tryd.prog.godebug = none := by kernel_rfl
theorem laidOut : laidOutB Tryd.prog = true := by kernel_rfl
/-- The door's own heap meets the condition. -/
theorem door_met (os : Os) (args : Array Value) : laidMetH Tryd.prog Rows.proofClashRow.laid ((World.doorLaid Tryd.prog 19 os).forCall (fun _ _ => 0) ⟨#[], args, []⟩).memory :=
  laidMetH_of_parts3 (fuel := 8) (laidMet_of_run' 8 (by kernel_rfl) (by kernel_rfl)) (by kernel_rfl) (by kernel_rfl)
set_option maxRecDepth 100000 in
theorem lifted (os : Os) (started : os.Started) (H : Type) (enc : TypeId × Value → H) :
    ReturnsInHanded {} Tryd.checked os 5 .any (fun w args => (Rows.proofClashSpec.pre enc Tryd.prog Tryd.f5 [] false w args ∧ laidMetH Tryd.prog Rows.proofClashRow.laid w) ∧ sizedMet enc Tryd.prog Tryd.f5 (OpenSpec.ofChange Rows.proofClashSpec) false w args)
      (Rows.proofClashSpec.post enc Tryd.prog Tryd.f5 false true false false) := by
  refine returnsInHanded_of_change_and (C := Tryd.checked) (X := fun w _ => laidMetH Tryd.prog Rows.proofClashRow.laid w) (fun _ _ _ hh h => h.of_heap hh) own started (by kernel_rfl) Tryd.func5
    (ChangeSpec.witness_shaped (enc := enc) (C := Tryd.checked) (os := os) (X := fun w _ => laidMetH Tryd.prog Rows.proofClashRow.laid w) false (World.doorLaid Tryd.prog 19 os) #[.int .i64 0, .agg (Pf.ccs ⟨Ac.za, Tr.z4⟩).toArray, .agg (Pf.ccs ⟨Ac.za, Tr.z4⟩).toArray] 8 rfl (World.shaped_of_RefB (by kernel_rfl) (by kernel_rfl)) (by kernel_rfl) (by kernel_rfl) (by kernel_rfl) (door_met os _)) ?_
  intro W base args ds gs before hval0 hW _ hwt hL _
  have hval : ∀ (j : Nat) t v, Tryd.f5.params[j]? = some t → args[j]? = some v → Value.okWide Tryd.prog W .any base t v := hval0
  have hW' := hW
  obtain ⟨p, q, hA0, hV, rfl, hfz, hnd⟩ := hW
  have hA : DataW.TrodAll enc Tryd.prog W 0 (fun _ => true) true Tryd.f5.params.toList args.toList ds p := hA0
  rw [Tryd.params5] at hA hval
  obtain ⟨v0, v1, v2, e0, e1, e2, p0, p1, p2, rfl, rfl, rfl, h0, h1, h2⟩ := trodAll_three hA
  obtain ⟨rfl, rfl⟩ := trodVars_none hV
  obtain ⟨hk, hk2⟩ := of_laid2 hL
  clear hA0 hval0
  obtain ⟨r0, rfl, rfl, rfl, w0⟩ := open_int Tryd.underlying3 (hval 0 3 v0 rfl rfl) h0
  have kr0 : -9223372036854775808 ≤ r0 ∧ r0 ≤ 9223372036854775807 := by have h := w0; simp [Lit.wf, IntKind.min, IntKind.max, IntKind.signed, IntKind.bits] at h; omega
  have h1k := h1
  obtain ⟨fuel1, h1t⟩ := h1
  obtain ⟨z1, hcs1, kz1⟩ := Pf.cla_of h1t
  obtain ⟨xs1, rfl, hsz1⟩ := okWide_struct Pf.claim_und (hval 1 60 v1 rfl rfl)
  obtain rfl : xs1 = (Pf.ccs z1).toArray := by
    have e : xs1.toList = Pf.ccs z1 := hcs1
    rw [← e]
  have h2k := h2
  obtain ⟨fuel2, h2t⟩ := h2
  obtain ⟨z2, hcs2, kz2⟩ := Pf.cla_of h2t
  obtain ⟨xs2, rfl, hsz2⟩ := okWide_struct Pf.claim_und (hval 2 60 v2 rfl rfl)
  obtain rfl : xs2 = (Pf.ccs z2).toArray := by
    have e : xs2.toList = Pf.ccs z2 := hcs2
    rw [← e]
  simp only [List.append_nil, List.nil_append] at hW'
  refine (proofClash_any r0 z1.ac z2.ac z1.pa z2.pa W kz1.ac kz2.ac kz1.pa kz2.pa hk hk2).mono fun e W' ⟨he, hB⟩ => ?_
  subst he
  exact ⟨_, rfl, _, _, _, [], [] ++ (p1 ++ p2), [], hW', trodAll_mk1 (shut_bool Tryd.underlying4 _), trodAll_mk3 (shut_int Tryd.underlying3 w0) (Below.trod laidOut (by kernel_rfl) (of_decide_eq_true (by kernel_rfl)) h1k hB (fun x hx => hW'.lt x (by simp [hx]))) (Below.trod laidOut (by kernel_rfl) (of_decide_eq_true (by kernel_rfl)) h2k hB (fun x hx => hW'.lt x (by simp [hx]))), rfl, hB.frame _, fun h => by cases h⟩
theorem over : Rows.ProofClashSaid :=
  OpenClaim.holds_of_wide 5 Tryd.f5 rfl rfl rfl rfl rfl rfl rfl ⟨rfl, rfl, rfl, rfl, rfl⟩ rfl rfl rfl rfl rfl (by kernel_rfl) Tryd.func5 (by kernel_rfl)
    (of_decide_eq_true (by kernel_rfl)) (by unfold Func.isWrapper; first | (rw [if_pos (by decide +kernel)]; kernel_rfl) | (rw [if_neg (by decide +kernel)]; exact ⟨rfl, rfl⟩))
    (fun os started H enc _ => lifted os started H enc)
/-- ████ THE STATEMENT: the tied card ████ -/
theorem proved : Rows.ProofClashCardSaid :=
  Claim7.holds_tied_plain_at .later [] [.data, .data] true Rows.proofClashCard.stood.harness false
    over (fun _ h => by cases h) (by kernel_rfl) (fun _ h => by cases h) proofClash_row_tie rfl ⟨rfl, rfl⟩ (by kernel_rfl) rfl
    (fun f fn hf hfn => by
      obtain rfl : f = 5 := Option.some.inj ((show Tryd.prog.funcNamed "almagest/almagestlaw16.ProofClash" = some 5 by kernel_rfl).symm.trans hf) |>.symm
      obtain rfl : fn = Tryd.f5 := (Option.some.inj (Tryd.func5.symm.trans hfn)).symm
      exact ⟨by kernel_rfl, fun j t ht => by
        rw [Tryd.params5] at ht
        have hm : t ∈ [3, 60, 60] := by simpa using Array.mem_of_getElem? ht
        have hall : ([3, 60, 60].all fun u => !Tryd.prog.wantsStandIn u) = true := by kernel_rfl
        exact (show Tryd.prog.wantsStandIn t = false by simpa using List.all_eq_true.1 hall t hm)⟩)
    (by kernel_rfl)
#print axioms proved
end Go.Proofs.YtaihhbiocolhcaaDoor.proofClash
