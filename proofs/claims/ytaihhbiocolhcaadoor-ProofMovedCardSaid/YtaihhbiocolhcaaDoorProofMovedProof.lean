/-
  ProofMoved, of package proof (promise P16.1): of any leaf, place and path, of which one byte is another one, the path leads elsewhere, or at some height the digests are the same though what is joined isn't; the call returns true, and its arguments read afterwards as before. Condition: the project's package-level table starts as the program's text lays it (the tied card).
-/
import Derived.Test.YtaihhbiocolhcaaDoorRows
import Derived.Test.YtaihhbiocolhcaaDoorTie
import Derived.Test.YtaihhbiocolhcaaDoorCards
import Derived.Test.YtaihhbiocolhcaaDoorPrfLaws
import Derived.Test.YtaihhbiocolhcaaDoorPrfActs
import Derived.Test.YtaihhbiocolhcaaDoorLaidS
import Derived.SevenTiedAt
namespace Go.Proofs.YtaihhbiocolhcaaDoor.proofMoved
open Go.ChangeShapes Go.WideShapes Go.ChangeAt Go.WideMaps Go.WideElems Go.ChangeMaps Go.RowKit Go.Proofs.YtaihhbiocolhcaaDoor.Sha Go.Proofs.YtaihhbiocolhcaaDoor.Bt Go.Proofs.YtaihhbiocolhcaaDoor.Ac Go.Proofs.YtaihhbiocolhcaaDoor.Tr Go.Proofs.YtaihhbiocolhcaaDoor.Pf
set_option linter.unusedVariables false
set_option linter.unusedSimpArgs false

theorem own : ownKnob Tryd.prog.godebug = none := by kernel_rfl
theorem laidOut : laidOutB Tryd.prog = true := by kernel_rfl
/-- The door's own heap meets the condition. -/
theorem door_met (os : Os) (args : Array Value) : laidMetH Tryd.prog Rows.proofMovedRow.laid ((World.doorLaid Tryd.prog 19 os).forCall (fun _ _ => 0) ⟨#[], args, []⟩).memory :=
  laidMetH_of_parts3 (fuel := 8) (laidMet_of_run' 8 (by kernel_rfl) (by kernel_rfl)) (by kernel_rfl) (by kernel_rfl)
set_option maxRecDepth 100000 in
theorem lifted (os : Os) (started : os.Started) (H : Type) (enc : TypeId × Value → H) :
    ReturnsInHanded {} Tryd.checked os 6 .any (fun w args => (Rows.proofMovedSpec.pre enc Tryd.prog Tryd.f6 [] false w args ∧ laidMetH Tryd.prog Rows.proofMovedRow.laid w) ∧ sizedMet enc Tryd.prog Tryd.f6 (OpenSpec.ofChange Rows.proofMovedSpec) false w args)
      (Rows.proofMovedSpec.post enc Tryd.prog Tryd.f6 false true false false) := by
  refine returnsInHanded_of_change_and (C := Tryd.checked) (X := fun w _ => laidMetH Tryd.prog Rows.proofMovedRow.laid w) (fun _ _ _ hh h => h.of_heap hh) own started (by kernel_rfl) Tryd.func6
    (ChangeSpec.witness_shaped (enc := enc) (C := Tryd.checked) (os := os) (X := fun w _ => laidMetH Tryd.prog Rows.proofMovedRow.laid w) false (World.doorLaid Tryd.prog 19 os) #[.agg (u8s Ep.zh).toArray, .int .i64 0, .agg (Tr.dgC Tr.z4).toArray, .int .i64 0, .int .i64 0, .int .u8 0] 8 rfl (World.shaped_of_RefB (by kernel_rfl) (by kernel_rfl)) (by kernel_rfl) (by kernel_rfl) (by kernel_rfl) (door_met os _)) ?_
  intro W base args ds gs before hval0 hW _ hwt hL _
  have hval : ∀ (j : Nat) t v, Tryd.f6.params[j]? = some t → args[j]? = some v → Value.okWide Tryd.prog W .any base t v := hval0
  have hW' := hW
  obtain ⟨p, q, hA0, hV, rfl, hfz, hnd⟩ := hW
  have hA : DataW.TrodAll enc Tryd.prog W 0 (fun _ => true) true Tryd.f6.params.toList args.toList ds p := hA0
  rw [Tryd.params6] at hA hval
  obtain ⟨v0, v1, v2, v3, v4, v5, e0, e1, e2, e3, e4, e5, p0, p1, p2, p3, p4, p5, rfl, rfl, rfl, h0, h1, h2, h3, h4, h5⟩ := trodAll_six hA
  obtain ⟨rfl, rfl⟩ := trodVars_none hV
  have hk := of_laidS hL
  clear hA0 hval0
  have h0k := h0
  obtain ⟨fuel0, h0t⟩ := h0
  obtain ⟨x0, hcs0, kx0⟩ := Ep.h32_of h0t
  obtain ⟨xs0, rfl⟩ := Ep.okWide_arr Ep.hash_und (hval 0 23 v0 rfl rfl)
  obtain rfl : xs0 = (u8s x0).toArray := by
    have e : xs0.toList = u8s x0 := hcs0
    rw [← e]
  obtain ⟨r1, rfl, rfl, rfl, w1⟩ := open_int Tryd.underlying3 (hval 1 3 v1 rfl rfl) h1
  have kr1 : -9223372036854775808 ≤ r1 ∧ r1 ≤ 9223372036854775807 := by have h := w1; simp [Lit.wf, IntKind.min, IntKind.max, IntKind.signed, IntKind.bits] at h; omega
  have h2k := h2
  obtain ⟨fuel2, h2t⟩ := h2
  obtain ⟨z2, hcs2, kz2⟩ := Pf.path_of h2t
  obtain ⟨xs2, rfl⟩ := Ep.okWide_arr Pf.path_und (hval 2 29 v2 rfl rfl)
  obtain rfl : xs2 = (Tr.dgC z2).toArray := by
    have e : xs2.toList = Tr.dgC z2 := hcs2
    rw [← e]
  obtain ⟨r3, rfl, rfl, rfl, w3⟩ := open_int Tryd.underlying3 (hval 3 3 v3 rfl rfl) h3
  have kr3 : -9223372036854775808 ≤ r3 ∧ r3 ≤ 9223372036854775807 := by have h := w3; simp [Lit.wf, IntKind.min, IntKind.max, IntKind.signed, IntKind.bits] at h; omega
  obtain ⟨r4, rfl, rfl, rfl, w4⟩ := open_int Tryd.underlying3 (hval 4 3 v4 rfl rfl) h4
  have kr4 : -9223372036854775808 ≤ r4 ∧ r4 ≤ 9223372036854775807 := by have h := w4; simp [Lit.wf, IntKind.min, IntKind.max, IntKind.signed, IntKind.bits] at h; omega
  obtain ⟨r5, rfl, rfl, rfl, w5⟩ := open_int Tryd.underlying5 (hval 5 5 v5 rfl rfl) h5
  have kr5 : 0 ≤ r5 ∧ r5 < 256 := by have h := w5; simp [Lit.wf, IntKind.min, IntKind.max, IntKind.signed, IntKind.bits] at h; omega
  obtain ⟨n5, rfl⟩ : ∃ n : Nat, r5 = (n : Int) := ⟨r5.toNat, by omega⟩
  have hn5 : n5 < 256 := by omega
  simp only [List.append_nil, List.nil_append] at hW'
  refine (proofMoved_any x0 r1 z2 r3 r4 n5 W kx0 kz2 hn5 hk).mono fun e W' ⟨he, hB⟩ => ?_
  subst he
  exact ⟨_, rfl, _, _, _, [], p0 ++ ([] ++ (p2 ++ ([] ++ ([] ++ [])))), [], hW', trodAll_mk1 (shut_bool Tryd.underlying4 _), trodAll_mk6 (Below.trod laidOut (by kernel_rfl) (of_decide_eq_true (by kernel_rfl)) h0k hB (fun x hx => hW'.lt x (by simp [hx]))) (shut_int Tryd.underlying3 w1) (Below.trod laidOut (by kernel_rfl) (of_decide_eq_true (by kernel_rfl)) h2k hB (fun x hx => hW'.lt x (by simp [hx]))) (shut_int Tryd.underlying3 w3) (shut_int Tryd.underlying3 w4) (shut_int Tryd.underlying5 w5), rfl, hB.frame _, fun h => by cases h⟩
theorem over : Rows.ProofMovedSaid :=
  OpenClaim.holds_of_wide 6 Tryd.f6 rfl rfl rfl rfl rfl rfl rfl ⟨rfl, rfl, rfl, rfl, rfl⟩ rfl rfl rfl rfl rfl (by kernel_rfl) Tryd.func6 (by kernel_rfl)
    (of_decide_eq_true (by kernel_rfl)) (by unfold Func.isWrapper; first | (rw [if_pos (by decide +kernel)]; kernel_rfl) | (rw [if_neg (by decide +kernel)]; exact ⟨rfl, rfl⟩))
    (fun os started H enc _ => lifted os started H enc)
/-- ████ THE STATEMENT: the tied card ████ -/
theorem proved : Rows.ProofMovedCardSaid :=
  Claim7.holds_tied_plain_at .later [] [.data] true Rows.proofMovedCard.stood.harness false
    over (fun _ h => by cases h) (by kernel_rfl) (fun _ h => by cases h) proofMoved_row_tie rfl ⟨rfl, rfl⟩ (by kernel_rfl) rfl
    (fun f fn hf hfn => by
      obtain rfl : f = 6 := Option.some.inj ((show Tryd.prog.funcNamed "almagest/almagestlaw16.ProofMoved" = some 6 by kernel_rfl).symm.trans hf) |>.symm
      obtain rfl : fn = Tryd.f6 := (Option.some.inj (Tryd.func6.symm.trans hfn)).symm
      exact ⟨by kernel_rfl, fun j t ht => by
        rw [Tryd.params6] at ht
        have hm : t ∈ [23, 3, 29, 3, 3, 5] := by simpa using Array.mem_of_getElem? ht
        have hall : ([23, 3, 29, 3, 3, 5].all fun u => !Tryd.prog.wantsStandIn u) = true := by kernel_rfl
        exact (show Tryd.prog.wantsStandIn t = false by simpa using List.all_eq_true.1 hall t hm)⟩)
    (by kernel_rfl)
#print axioms proved
end Go.Proofs.YtaihhbiocolhcaaDoor.proofMoved
