/-
  ProofTells, of package proof (promises P16.1, P16.2): of any root, leaf, place, account, path and bytes (names and bytes of up to 300, as the statement has it; beyond that the law looks no further) to which digest the path leads, whether the account stands there, the path's bytes, and what the bytes are read as, or what goes wrong, are as the document's answer has it; the call returns true, and its arguments read afterwards as before. Condition: the two package-level tables start as the program's text lays them (the tied card).
-/
import Derived.Test.YtaihhbiocolhcaaDoorRows
import Derived.Test.YtaihhbiocolhcaaDoorTie
import Derived.Test.YtaihhbiocolhcaaDoorCards
import Derived.Test.YtaihhbiocolhcaaDoorPrfLaws3
import Derived.Test.YtaihhbiocolhcaaDoorPrfActs
import Derived.Test.YtaihhbiocolhcaaDoorTab2
import Derived.SevenTiedAt
namespace Go.Proofs.YtaihhbiocolhcaaDoor.proofTells
open Go.ChangeShapes Go.WideShapes Go.ChangeAt Go.WideMaps Go.WideElems Go.ChangeMaps Go.RowKit Go.Proofs.YtaihhbiocolhcaaDoor.Sha Go.Proofs.YtaihhbiocolhcaaDoor.Bt Go.Proofs.YtaihhbiocolhcaaDoor.Ac Go.Proofs.YtaihhbiocolhcaaDoor.Tr Go.Proofs.YtaihhbiocolhcaaDoor.Pf
set_option linter.unusedVariables false
set_option linter.unusedSimpArgs false

theorem own : ownKnob Tryd.prog.godebug = none := by kernel_rfl
theorem laidOut : laidOutB Tryd.prog = true := by kernel_rfl
/-- The door's own heap meets the condition. -/
theorem door_met (os : Os) (args : Array Value) : laidMetH Tryd.prog Rows.proofTellsRow.laid ((World.doorLaid Tryd.prog 19 os).forCall (fun _ _ => 0) ⟨#[], args, []⟩).memory :=
  laidMetH_of_parts3 (fuel := 8) (laidMet_of_run' 8 (by kernel_rfl) (by kernel_rfl)) (by kernel_rfl) (by kernel_rfl)
set_option maxRecDepth 100000 in
theorem lifted (os : Os) (started : os.Started) (H : Type) (enc : TypeId × Value → H) :
    ReturnsInHanded {} Tryd.checked os 3 .any (fun w args => (Rows.proofTellsSpec.pre enc Tryd.prog Tryd.f3 [] false w args ∧ laidMetH Tryd.prog Rows.proofTellsRow.laid w) ∧ sizedMet enc Tryd.prog Tryd.f3 (OpenSpec.ofChange Rows.proofTellsSpec) false w args)
      (Rows.proofTellsSpec.post enc Tryd.prog Tryd.f3 false true false false) := by
  refine returnsInHanded_of_change_and (C := Tryd.checked) (X := fun w _ => laidMetH Tryd.prog Rows.proofTellsRow.laid w) (fun _ _ _ hh h => h.of_heap hh) own started (by kernel_rfl) Tryd.func3
    (ChangeSpec.witness_shaped (enc := enc) (C := Tryd.checked) (os := os) (X := fun w _ => laidMetH Tryd.prog Rows.proofTellsRow.laid w) false (World.doorLaid Tryd.prog 19 os) #[.agg (u8s Ep.zh).toArray, .agg (u8s Ep.zh).toArray, .int .i64 0, .agg (Ac.acs Ac.za).toArray, .agg (Tr.dgC Tr.z4).toArray, .slice none 0 0] 8 rfl (World.shaped_of_RefB (by kernel_rfl) (by kernel_rfl)) (by kernel_rfl) (by kernel_rfl) (by kernel_rfl) (door_met os _)) ?_
  intro W base args ds gs before hval0 hW _ hwt hL _
  have hval : ∀ (j : Nat) t v, Tryd.f3.params[j]? = some t → args[j]? = some v → Value.okWide Tryd.prog W .any base t v := hval0
  have hW' := hW
  obtain ⟨p, q, hA0, hV, rfl, hfz, hnd⟩ := hW
  have hA : DataW.TrodAll enc Tryd.prog W 0 (fun _ => true) true Tryd.f3.params.toList args.toList ds p := hA0
  rw [Tryd.params3] at hA hval
  obtain ⟨v0, v1, v2, v3, v4, v5, e0, e1, e2, e3, e4, e5, p0, p1, p2, p3, p4, p5, rfl, rfl, rfl, h0, h1, h2, h3, h4, h5⟩ := trodAll_six hA
  obtain ⟨rfl, rfl⟩ := trodVars_none hV
  obtain ⟨hk, hk2⟩ := of_laid2 hL
  clear hA0 hval0
  have h0k := h0
  obtain ⟨fuel0, h0t⟩ := h0
  obtain ⟨x0, hcs0, kx0⟩ := Ep.h32_of h0t
  obtain ⟨xs0, rfl⟩ := Ep.okWide_arr Ep.hash_und (hval 0 23 v0 rfl rfl)
  obtain rfl : xs0 = (u8s x0).toArray := by
    have e : xs0.toList = u8s x0 := hcs0
    rw [← e]
  have h1k := h1
  obtain ⟨fuel1, h1t⟩ := h1
  obtain ⟨x1, hcs1, kx1⟩ := Ep.h32_of h1t
  obtain ⟨xs1, rfl⟩ := Ep.okWide_arr Ep.hash_und (hval 1 23 v1 rfl rfl)
  obtain rfl : xs1 = (u8s x1).toArray := by
    have e : xs1.toList = u8s x1 := hcs1
    rw [← e]
  obtain ⟨r2, rfl, rfl, rfl, w2⟩ := open_int Tryd.underlying3 (hval 2 3 v2 rfl rfl) h2
  have kr2 : -9223372036854775808 ≤ r2 ∧ r2 ≤ 9223372036854775807 := by have h := w2; simp [Lit.wf, IntKind.min, IntKind.max, IntKind.signed, IntKind.bits] at h; omega
  have h3k := h3
  obtain ⟨fuel3, h3t⟩ := h3
  obtain ⟨y3, hcs3, ky3⟩ := Ac.acc_of h3t
  obtain ⟨xs3, rfl, hsz3⟩ := okWide_struct Ac.acc_und (hval 3 27 v3 rfl rfl)
  obtain rfl : xs3 = (Ac.acs y3).toArray := by
    have e : xs3.toList = Ac.acs y3 := hcs3
    rw [← e]
  have h4k := h4
  obtain ⟨fuel4, h4t⟩ := h4
  obtain ⟨z4, hcs4, kz4⟩ := Pf.path_of h4t
  obtain ⟨xs4, rfl⟩ := Ep.okWide_arr Pf.path_und (hval 4 29 v4 rfl rfl)
  obtain rfl : xs4 = (Tr.dgC z4).toArray := by
    have e : xs4.toList = Tr.dgC z4 := hcs4
    rw [← e]
  have h5k := h5
  obtain ⟨fuel5, h5t⟩ := h5
  obtain ⟨P5, c5, b5, hcs5, hcm5⟩ := came_of h5t
  obtain ⟨a5, n5, cc5, rfl⟩ := okWide_slice Tryd.underlying30 (hval 5 30 v5 rfl rfl)
  obtain ⟨rfl, rfl, rfl⟩ : a5 = P5 ∧ n5 = b5.length ∧ cc5 = c5 := by simpa [Value.cells] using hcs5
  simp only [List.append_nil, List.nil_append] at hW'
  refine (proofTells_any x0 x1 r2 y3 z4 b5 a5 cc5 W kx0 kx1 ky3 kz4 hcm5 hk hk2).mono fun e W' ⟨he, hB⟩ => ?_
  subst he
  exact ⟨_, rfl, _, _, _, [], p0 ++ (p1 ++ ([] ++ (p3 ++ (p4 ++ p5)))), [], hW', trodAll_mk1 (shut_bool Tryd.underlying4 _), trodAll_mk6 (Below.trod laidOut (by kernel_rfl) (of_decide_eq_true (by kernel_rfl)) h0k hB (fun x hx => hW'.lt x (by simp [hx]))) (Below.trod laidOut (by kernel_rfl) (of_decide_eq_true (by kernel_rfl)) h1k hB (fun x hx => hW'.lt x (by simp [hx]))) (shut_int Tryd.underlying3 w2) (Below.trod laidOut (by kernel_rfl) (of_decide_eq_true (by kernel_rfl)) h3k hB (fun x hx => hW'.lt x (by simp [hx]))) (Below.trod laidOut (by kernel_rfl) (of_decide_eq_true (by kernel_rfl)) h4k hB (fun x hx => hW'.lt x (by simp [hx]))) (Below.trod laidOut (by kernel_rfl) (of_decide_eq_true (by kernel_rfl)) h5k hB (fun x hx => hW'.lt x (by simp [hx]))), rfl, hB.frame _, fun h => by cases h⟩
theorem over : Rows.ProofTellsSaid :=
  OpenClaim.holds_of_wide 3 Tryd.f3 rfl rfl rfl rfl rfl rfl rfl ⟨rfl, rfl, rfl, rfl, rfl⟩ rfl rfl rfl rfl rfl (by kernel_rfl) Tryd.func3 (by kernel_rfl)
    (of_decide_eq_true (by kernel_rfl)) (by unfold Func.isWrapper; first | (rw [if_pos (by decide +kernel)]; kernel_rfl) | (rw [if_neg (by decide +kernel)]; exact ⟨rfl, rfl⟩))
    (fun os started H enc _ => lifted os started H enc)
/-- ████ THE STATEMENT: the tied card ████ -/
theorem proved : Rows.ProofTellsCardSaid :=
  Claim7.holds_tied_plain_at .later [] [.data, .data] true Rows.proofTellsCard.stood.harness false
    over (fun _ h => by cases h) (by kernel_rfl) (fun _ h => by cases h) proofTells_row_tie rfl ⟨rfl, rfl⟩ (by kernel_rfl) rfl
    (fun f fn hf hfn => by
      obtain rfl : f = 3 := Option.some.inj ((show Tryd.prog.funcNamed "almagest/almagestlaw16.ProofTells" = some 3 by kernel_rfl).symm.trans hf) |>.symm
      obtain rfl : fn = Tryd.f3 := (Option.some.inj (Tryd.func3.symm.trans hfn)).symm
      exact ⟨by kernel_rfl, fun j t ht => by
        rw [Tryd.params3] at ht
        have hm : t ∈ [23, 23, 3, 27, 29, 30] := by simpa using Array.mem_of_getElem? ht
        have hall : ([23, 23, 3, 27, 29, 30].all fun u => !Tryd.prog.wantsStandIn u) = true := by kernel_rfl
        exact (show Tryd.prog.wantsStandIn t = false by simpa using List.all_eq_true.1 hall t hm)⟩)
    (by kernel_rfl)
#print axioms proved
end Go.Proofs.YtaihhbiocolhcaaDoor.proofTells
