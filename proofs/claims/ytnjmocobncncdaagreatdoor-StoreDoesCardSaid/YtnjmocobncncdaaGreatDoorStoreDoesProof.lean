/-
  StoreDoes, of package store (promises P19.1 and P19.2): act by act, what a store answers, what it keeps, and which is pinned, are as the document says (any room; up to 40 acts, as the statement has it; beyond that the law looks no further); the call returns true, and its arguments read afterwards as before. Condition: the two package-level tables start as the program's text lays them (the tied card).
-/
import Derived.Test.YtnjmocobncncdaaGreatDoorRows
import Derived.Test.YtnjmocobncncdaaGreatDoorTie
import Derived.Test.YtnjmocobncncdaaGreatDoorCards
import Derived.Test.YtnjmocobncncdaaGreatDoorStoLaws2
import Derived.Test.YtnjmocobncncdaaGreatDoorTab2
import Derived.SevenTiedAt
namespace Go.Proofs.YtnjmocobncncdaaGreatDoor.storeDoes
open Go.ChangeShapes Go.WideShapes Go.ChangeAt Go.WideMaps Go.WideElems Go.ChangeMaps Go.RowKit Go.Proofs.YtnjmocobncncdaaGreatDoor.Sha Go.Proofs.YtnjmocobncncdaaGreatDoor.Bt Go.Proofs.YtnjmocobncncdaaGreatDoor.So
set_option linter.unusedVariables false
set_option linter.unusedSimpArgs false

theorem own : ownKnob Tryz.prog.godebug = none := by kernel_rfl
theorem laidOut : laidOutB Tryz.prog = true := by kernel_rfl
/-- The door's own heap meets the condition. -/
theorem door_met (os : Os) (args : Array Value) : laidMetH Tryz.prog Rows.storeDoesRow.laid ((World.doorLaid Tryz.prog 19 os).forCall (fun _ _ => 0) ⟨#[], args, []⟩).memory :=
  laidMetH_of_parts3 (fuel := 8) (laidMet_of_run' 8 (by kernel_rfl) (by kernel_rfl)) (by kernel_rfl) (by kernel_rfl)
set_option maxRecDepth 100000 in
theorem lifted (os : Os) (started : os.Started) (H : Type) (enc : TypeId × Value → H) :
    ReturnsInHanded {} Tryz.checked os 3 .any (fun w args => (Rows.storeDoesSpec.pre enc Tryz.prog Tryz.f3 [] false w args ∧ laidMetH Tryz.prog Rows.storeDoesRow.laid w) ∧ sizedMet enc Tryz.prog Tryz.f3 (OpenSpec.ofChange Rows.storeDoesSpec) false w args)
      (Rows.storeDoesSpec.post enc Tryz.prog Tryz.f3 false true false false) := by
  refine returnsInHanded_of_change_and (C := Tryz.checked) (X := fun w _ => laidMetH Tryz.prog Rows.storeDoesRow.laid w) (fun _ _ _ hh h => h.of_heap hh) own started (by kernel_rfl) Tryz.func3
    (ChangeSpec.witness_shaped (enc := enc) (C := Tryz.checked) (os := os) (X := fun w _ => laidMetH Tryz.prog Rows.storeDoesRow.laid w) false (World.doorLaid Tryz.prog 19 os) #[.int .i64 0, .slice none 0 0] 8 rfl (World.shaped_of_RefB (by kernel_rfl) (by kernel_rfl)) (by kernel_rfl) (by kernel_rfl) (by kernel_rfl) (door_met os _)) ?_
  intro W base args ds gs before hval0 hW _ hwt hL _
  have hval : ∀ (j : Nat) t v, Tryz.f3.params[j]? = some t → args[j]? = some v → Value.okWide Tryz.prog W .any base t v := hval0
  have hW' := hW
  obtain ⟨p, q, hA0, hV, rfl, hfz, hnd⟩ := hW
  have hA : DataW.TrodAll enc Tryz.prog W 0 (fun _ => true) true Tryz.f3.params.toList args.toList ds p := hA0
  rw [Tryz.params3] at hA hval
  obtain ⟨v0, v1, e0, e1, p0, p1, rfl, rfl, rfl, h0, h1⟩ := trodAll_two hA
  obtain ⟨rfl, rfl⟩ := trodVars_none hV
  obtain ⟨hk, hk2⟩ := of_laid2 hL
  clear hA0 hval0
  obtain ⟨r0, rfl, rfl, rfl, w0⟩ := open_int Tryz.underlying3 (hval 0 3 v0 rfl rfl) h0
  have kr0 : -9223372036854775808 ≤ r0 ∧ r0 ≤ 9223372036854775807 := by have h := w0; simp [Lit.wf, IntKind.min, IntKind.max, IntKind.signed, IntKind.bits] at h; omega
  have h1k := h1
  obtain ⟨fuel1, h1t⟩ := h1
  obtain ⟨P1, l1, cc1, hcs1, hs1, hm1, hcap1⟩ := Sl.at_of So.fA (fun h => So.act_of h) (by kernel_rfl) h1t
  obtain ⟨a1, n1, cx1, rfl⟩ := okWide_slice So.fA.und (hval 1 22 v1 rfl rfl)
  obtain ⟨rfl, rfl, rfl⟩ : a1 = P1 ∧ n1 = l1.length ∧ cx1 = cc1 := by simpa [Value.cells] using hcs1
  simp only [List.append_nil, List.nil_append] at hW'
  refine (storeDoes_any r0 l1 a1 cx1 W hs1 hk hk2).mono fun e W' ⟨he, hB⟩ => ?_
  subst he
  exact ⟨_, rfl, _, _, _, [], [] ++ p1, [], hW', trodAll_mk1 (shut_bool Tryz.underlying4 _), trodAll_mk2 (shut_int Tryz.underlying3 w0) (Below.trod laidOut (by kernel_rfl) (of_decide_eq_true (by kernel_rfl)) h1k hB (fun x hx => hW'.lt x (by simp [hx]))), rfl, hB.frame _, fun h => by cases h⟩
theorem over : Rows.StoreDoesSaid :=
  OpenClaim.holds_of_wide 3 Tryz.f3 rfl rfl rfl rfl rfl rfl rfl ⟨rfl, rfl, rfl, rfl, rfl⟩ rfl rfl rfl rfl rfl (by kernel_rfl) Tryz.func3 (by kernel_rfl)
    (of_decide_eq_true (by kernel_rfl)) (by unfold Func.isWrapper; first | (rw [if_pos (by decide +kernel)]; kernel_rfl) | (rw [if_neg (by decide +kernel)]; exact ⟨rfl, rfl⟩))
    (fun os started H enc _ => lifted os started H enc)
/-- ████ THE STATEMENT: the tied card ████ -/
theorem proved : Rows.StoreDoesCardSaid :=
  Claim7.holds_tied_plain_at .later [] [.data, .data] true Rows.storeDoesCard.stood.harness false
    over (fun _ h => by cases h) (by kernel_rfl) (fun _ h => by cases h) storeDoes_row_tie rfl ⟨rfl, rfl⟩ (by kernel_rfl) rfl
    (fun f fn hf hfn => by
      obtain rfl : f = 3 := Option.some.inj ((show Tryz.prog.funcNamed "almagest/almagestlaw19.StoreDoes" = some 3 by kernel_rfl).symm.trans hf) |>.symm
      obtain rfl : fn = Tryz.f3 := (Option.some.inj (Tryz.func3.symm.trans hfn)).symm
      exact ⟨by kernel_rfl, fun j t ht => by
        rw [Tryz.params3] at ht
        have hm : t ∈ [3, 22] := by simpa using Array.mem_of_getElem? ht
        have hall : ([3, 22].all fun u => !Tryz.prog.wantsStandIn u) = true := by kernel_rfl
        exact (show Tryz.prog.wantsStandIn t = false by simpa using List.all_eq_true.1 hall t hm)⟩)
    (by kernel_rfl)
#print axioms proved
end Go.Proofs.YtnjmocobncncdaaGreatDoor.storeDoes
