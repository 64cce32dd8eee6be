/-
  ChooseTells, of package choose (promises P13.1, P13.2): whether any two states that are right are near, their densities, whether one wins, and the tip that is kept of any candidates that are right (of up to 20, as the statement has it; beyond that the law looks no further), are as the document's answer has it; the call returns true, and its arguments read afterwards as before. Condition: the two package-level tables start as the program's text lays them (the tied card).
-/
import Derived.Test.YtffpifljeeikfaaGreatDoorRows
import Derived.Test.YtffpifljeeikfaaGreatDoorTie
import Derived.Test.YtffpifljeeikfaaGreatDoorCards
import Derived.Test.YtffpifljeeikfaaGreatDoorChoLaws
import Derived.Test.YtffpifljeeikfaaGreatDoorStaReads
import Derived.SevenTiedAt
namespace Go.Proofs.YtffpifljeeikfaaGreatDoor.chooseTells
open Go.ChangeShapes Go.WideShapes Go.ChangeAt Go.WideMaps Go.WideElems Go.ChangeMaps Go.RowKit Go.Proofs.YtffpifljeeikfaaGreatDoor.Sha Go.Proofs.YtffpifljeeikfaaGreatDoor.Bt Go.Proofs.YtffpifljeeikfaaGreatDoor.Sa Go.Proofs.YtffpifljeeikfaaGreatDoor.Cz
set_option linter.unusedVariables false
set_option linter.unusedSimpArgs false

theorem own : ownKnob Tryz.prog.godebug = none := by kernel_rfl
theorem laidOut : laidOutB Tryz.prog = true := by kernel_rfl
/-- The door's own heap meets the condition. -/
theorem door_met (os : Os) (args : Array Value) : laidMetH Tryz.prog Rows.chooseTellsRow.laid ((World.doorLaid Tryz.prog 19 os).forCall (fun _ _ => 0) ⟨#[], args, []⟩).memory :=
  laidMetH_of_parts3 (fuel := 8) (laidMet_of_run' 8 (by kernel_rfl) (by kernel_rfl)) (by kernel_rfl) (by kernel_rfl)
set_option maxRecDepth 100000 in
theorem lifted (os : Os) (started : os.Started) (H : Type) (enc : TypeId × Value → H) :
    ReturnsInHanded {} Tryz.checked os 3 .any (fun w args => (Rows.chooseTellsSpec.pre enc Tryz.prog Tryz.f3 [] false w args ∧ laidMetH Tryz.prog Rows.chooseTellsRow.laid w) ∧ sizedMet enc Tryz.prog Tryz.f3 (OpenSpec.ofChange Rows.chooseTellsSpec) false w args)
      (Rows.chooseTellsSpec.post enc Tryz.prog Tryz.f3 false true false false) := by
  refine returnsInHanded_of_change_and (C := Tryz.checked) (X := fun w _ => laidMetH Tryz.prog Rows.chooseTellsRow.laid w) (fun _ _ _ hh h => h.of_heap hh) own started (by kernel_rfl) Tryz.func3
    (ChangeSpec.witness_shaped (enc := enc) (C := Tryz.checked) (os := os) (X := fun w _ => laidMetH Tryz.prog Rows.chooseTellsRow.laid w) false (World.doorLaid Tryz.prog 19 os) #[.agg (Sa.scs Sa.zs).toArray, .agg (Sa.scs Sa.zs).toArray, .slice none 0 0] 8 rfl (World.shaped_of_RefB (by kernel_rfl) (by kernel_rfl)) (by kernel_rfl) (by kernel_rfl) (by kernel_rfl) (door_met os _)) ?_
  intro W base args ds gs before hval0 hW _ hwt hL _
  have hval : ∀ (j : Nat) t v, Tryz.f3.params[j]? = some t → args[j]? = some v → Value.okWide Tryz.prog W .any base t v := hval0
  have hW' := hW
  obtain ⟨p, q, hA0, hV, rfl, hfz, hnd⟩ := hW
  have hA : DataW.TrodAll enc Tryz.prog W 0 (fun _ => true) true Tryz.f3.params.toList args.toList ds p := hA0
  rw [Tryz.params3] at hA hval
  obtain ⟨v0, v1, v2, e0, e1, e2, p0, p1, p2, rfl, rfl, rfl, h0, h1, h2⟩ := trodAll_three hA
  obtain ⟨rfl, rfl⟩ := trodVars_none hV
  obtain ⟨hk, hk2⟩ := of_laid2 hL
  clear hA0 hval0
  have h0k := h0
  obtain ⟨fuel0, h0t⟩ := h0
  obtain ⟨s0, hcs0, ks0⟩ := Sa.sta_of h0t
  obtain ⟨xs0, rfl, hsz0⟩ := okWide_struct Sa.sta_und (hval 0 35 v0 rfl rfl)
  obtain rfl : xs0 = (Sa.scs s0).toArray := by
    have e : xs0.toList = Sa.scs s0 := hcs0
    rw [← e]
  have h1k := h1
  obtain ⟨fuel1, h1t⟩ := h1
  obtain ⟨s1, hcs1, ks1⟩ := Sa.sta_of h1t
  obtain ⟨xs1, rfl, hsz1⟩ := okWide_struct Sa.sta_und (hval 1 35 v1 rfl rfl)
  obtain rfl : xs1 = (Sa.scs s1).toArray := by
    have e : xs1.toList = Sa.scs s1 := hcs1
    rw [← e]
  have h2k := h2
  obtain ⟨fuel2, h2t⟩ := h2
  obtain ⟨P2, l2, cc2, hcs2, hs2, hm2, hcap2⟩ := Sl.at_of Lk.fS (fun h => Sa.sta_of h) (by kernel_rfl) h2t
  obtain ⟨a2, n2, cx2, rfl⟩ := okWide_slice Lk.fS.und (hval 2 36 v2 rfl rfl)
  obtain ⟨rfl, rfl, rfl⟩ : a2 = P2 ∧ n2 = l2.length ∧ cx2 = cc2 := by simpa [Value.cells] using hcs2
  simp only [List.append_nil, List.nil_append] at hW'
  refine (chooseTells_any s0 s1 l2 a2 cx2 W ks0 ks1 hs2 hm2 hk hk2).mono fun e W' ⟨he, hB⟩ => ?_
  subst he
  exact ⟨_, rfl, _, _, _, [], p0 ++ (p1 ++ p2), [], hW', trodAll_mk1 (shut_bool Tryz.underlying4 _), trodAll_mk3 (Below.trod laidOut (by kernel_rfl) (of_decide_eq_true (by kernel_rfl)) h0k hB (fun x hx => hW'.lt x (by simp [hx]))) (Below.trod laidOut (by kernel_rfl) (of_decide_eq_true (by kernel_rfl)) h1k hB (fun x hx => hW'.lt x (by simp [hx]))) (Below.trod laidOut (by kernel_rfl) (of_decide_eq_true (by kernel_rfl)) h2k hB (fun x hx => hW'.lt x (by simp [hx]))), rfl, hB.frame _, fun h => by cases h⟩
theorem over : Rows.ChooseTellsSaid :=
  OpenClaim.holds_of_wide 3 Tryz.f3 rfl rfl rfl rfl rfl rfl rfl ⟨rfl, rfl, rfl, rfl, rfl⟩ rfl rfl rfl rfl rfl (by kernel_rfl) Tryz.func3 (by kernel_rfl)
    (of_decide_eq_true (by kernel_rfl)) (by unfold Func.isWrapper; first | (rw [if_pos (by decide +kernel)]; kernel_rfl) | (rw [if_neg (by decide +kernel)]; exact ⟨rfl, rfl⟩))
    (fun os started H enc _ => lifted os started H enc)
/-- ████ THE STATEMENT: the tied card ████ -/
theorem proved : Rows.ChooseTellsCardSaid :=
  Claim7.holds_tied_plain_at .later [] [.data, .data] true Rows.chooseTellsCard.stood.harness false
    over (fun _ h => by cases h) (by kernel_rfl) (fun _ h => by cases h) chooseTells_row_tie rfl ⟨rfl, rfl⟩ (by kernel_rfl) rfl
    (fun f fn hf hfn => by
      obtain rfl : f = 3 := Option.some.inj ((show Tryz.prog.funcNamed "almagest/almagestlaw13.ChooseTells" = some 3 by kernel_rfl).symm.trans hf) |>.symm
      obtain rfl : fn = Tryz.f3 := (Option.some.inj (Tryz.func3.symm.trans hfn)).symm
      exact ⟨by kernel_rfl, fun j t ht => by
        rw [Tryz.params3] at ht
        have hm : t ∈ [35, 35, 36] := by simpa using Array.mem_of_getElem? ht
        have hall : ([35, 35, 36].all fun u => !Tryz.prog.wantsStandIn u) = true := by kernel_rfl
        exact (show Tryz.prog.wantsStandIn t = false by simpa using List.all_eq_true.1 hall t hm)⟩)
    (by kernel_rfl)
#print axioms proved
end Go.Proofs.YtffpifljeeikfaaGreatDoor.chooseTells
