/-
  StoreOrder, of package store (promise P19.3): where none is pinned the greatest are kept, in whatever order they came: of two orders the same keys; or two of the states that aren't the same have one digest (any room; up to 40 states, as the statement has it; beyond that the law looks no further); the call returns true, and its arguments read afterwards as before. Condition: the project's package-level table starts as the program's text lays it (the tied card).
-/
import Derived.Test.YtnjmocobncncdaaDoorRows
import Derived.Test.YtnjmocobncncdaaDoorTie
import Derived.Test.YtnjmocobncncdaaDoorCards
import Derived.Test.YtnjmocobncncdaaDoorStoLaws3
import Derived.Test.YtnjmocobncncdaaDoorStaReads
import Derived.Test.YtnjmocobncncdaaDoorLaidS
import Derived.SevenTiedAt
namespace Go.Proofs.YtnjmocobncncdaaDoor.storeOrder
open Go.ChangeShapes Go.WideShapes Go.ChangeAt Go.WideMaps Go.WideElems Go.ChangeMaps Go.RowKit Go.Proofs.YtnjmocobncncdaaDoor.Sha Go.Proofs.YtnjmocobncncdaaDoor.Bt Go.Proofs.YtnjmocobncncdaaDoor.So
set_option linter.unusedVariables false
set_option linter.unusedSimpArgs false

theorem own : ownKnob Tryd.prog.godebug = none := by kernel_rfl
theorem laidOut : laidOutB Tryd.prog = true := by kernel_rfl
/-- The door's own heap meets the condition. -/
theorem door_met (os : Os) (args : Array Value) : laidMetH Tryd.prog Rows.storeOrderRow.laid ((World.doorLaid Tryd.prog 19 os).forCall (fun _ _ => 0) ⟨#[], args, []⟩).memory :=
  laidMetH_of_parts3 (fuel := 8) (laidMet_of_run' 8 (by kernel_rfl) (by kernel_rfl)) (by kernel_rfl) (by kernel_rfl)
set_option maxRecDepth 100000 in
theorem lifted (os : Os) (started : os.Started) (H : Type) (enc : TypeId × Value → H) :
    ReturnsInHanded {} Tryd.checked os 4 .any (fun w args => (Rows.storeOrderSpec.pre enc Tryd.prog Tryd.f4 [] false w args ∧ laidMetH Tryd.prog Rows.storeOrderRow.laid w) ∧ sizedMet enc Tryd.prog Tryd.f4 (OpenSpec.ofChange Rows.storeOrderSpec) false w args)
      (Rows.storeOrderSpec.post enc Tryd.prog Tryd.f4 false true false false) := by
  refine returnsInHanded_of_change_and (C := Tryd.checked) (X := fun w _ => laidMetH Tryd.prog Rows.storeOrderRow.laid w) (fun _ _ _ hh h => h.of_heap hh) own started (by kernel_rfl) Tryd.func4
    (ChangeSpec.witness_shaped (enc := enc) (C := Tryd.checked) (os := os) (X := fun w _ => laidMetH Tryd.prog Rows.storeOrderRow.laid w) false (World.doorLaid Tryd.prog 19 os) #[.int .i64 0, .slice none 0 0, .int .i64 0, .int .i64 0] 8 rfl (World.shaped_of_RefB (by kernel_rfl) (by kernel_rfl)) (by kernel_rfl) (by kernel_rfl) (by kernel_rfl) (door_met os _)) ?_
  intro W base args ds gs before hval0 hW _ hwt hL _
  have hval : ∀ (j : Nat) t v, Tryd.f4.params[j]? = some t → args[j]? = some v → Value.okWide Tryd.prog W .any base t v := hval0
  have hW' := hW
  obtain ⟨p, q, hA0, hV, rfl, hfz, hnd⟩ := hW
  have hA : DataW.TrodAll enc Tryd.prog W 0 (fun _ => true) true Tryd.f4.params.toList args.toList ds p := hA0
  rw [Tryd.params4] at hA hval
  obtain ⟨v0, v1, v2, v3, e0, e1, e2, e3, p0, p1, p2, p3, rfl, rfl, rfl, h0, h1, h2, h3⟩ := trodAll_four hA
  obtain ⟨rfl, rfl⟩ := trodVars_none hV
  have hk := of_laidS hL
  clear hA0 hval0
  obtain ⟨r0, rfl, rfl, rfl, w0⟩ := open_int Tryd.underlying3 (hval 0 3 v0 rfl rfl) h0
  have kr0 : -9223372036854775808 ≤ r0 ∧ r0 ≤ 9223372036854775807 := by have h := w0; simp [Lit.wf, IntKind.min, IntKind.max, IntKind.signed, IntKind.bits] at h; omega
  have h1k := h1
  obtain ⟨fuel1, h1t⟩ := h1
  obtain ⟨P1, l1, cc1, hcs1, hs1, hm1, hcap1⟩ := Sl.at_of Lk.fS (fun h => Sa.sta_of h) (by kernel_rfl) h1t
  obtain ⟨a1, n1, cx1, rfl⟩ := okWide_slice Lk.fS.und (hval 1 58 v1 rfl rfl)
  obtain ⟨rfl, rfl, rfl⟩ : a1 = P1 ∧ n1 = l1.length ∧ cx1 = cc1 := by simpa [Value.cells] using hcs1
  obtain ⟨r2, rfl, rfl, rfl, w2⟩ := open_int Tryd.underlying3 (hval 2 3 v2 rfl rfl) h2
  have kr2 : -9223372036854775808 ≤ r2 ∧ r2 ≤ 9223372036854775807 := by have h := w2; simp [Lit.wf, IntKind.min, IntKind.max, IntKind.signed, IntKind.bits] at h; omega
  obtain ⟨r3, rfl, rfl, rfl, w3⟩ := open_int Tryd.underlying3 (hval 3 3 v3 rfl rfl) h3
  have kr3 : -9223372036854775808 ≤ r3 ∧ r3 ≤ 9223372036854775807 := by have h := w3; simp [Lit.wf, IntKind.min, IntKind.max, IntKind.signed, IntKind.bits] at h; omega
  simp only [List.append_nil, List.nil_append] at hW'
  refine (storeOrder_any r0 l1 r2 r3 a1 cx1 W hs1 hcap1 hk).mono fun e W' ⟨he, hB⟩ => ?_
  subst he
  exact ⟨_, rfl, _, _, _, [], [] ++ (p1 ++ ([] ++ [])), [], hW', trodAll_mk1 (shut_bool Tryd.underlying4 _), trodAll_mk4 (shut_int Tryd.underlying3 w0) (Below.trod laidOut (by kernel_rfl) (of_decide_eq_true (by kernel_rfl)) h1k hB (fun x hx => hW'.lt x (by simp [hx]))) (shut_int Tryd.underlying3 w2) (shut_int Tryd.underlying3 w3), rfl, hB.frame _, fun h => by cases h⟩
theorem over : Rows.StoreOrderSaid :=
  OpenClaim.holds_of_wide 4 Tryd.f4 rfl rfl rfl rfl rfl rfl rfl ⟨rfl, rfl, rfl, rfl, rfl⟩ rfl rfl rfl rfl rfl (by kernel_rfl) Tryd.func4 (by kernel_rfl)
    (of_decide_eq_true (by kernel_rfl)) (by unfold Func.isWrapper; first | (rw [if_pos (by decide +kernel)]; kernel_rfl) | (rw [if_neg (by decide +kernel)]; exact ⟨rfl, rfl⟩))
    (fun os started H enc _ => lifted os started H enc)
/-- ████ THE STATEMENT: the tied card ████ -/
theorem proved : Rows.StoreOrderCardSaid :=
  Claim7.holds_tied_plain_at .later [] [.data] true Rows.storeOrderCard.stood.harness false
    over (fun _ h => by cases h) (by kernel_rfl) (fun _ h => by cases h) storeOrder_row_tie rfl ⟨rfl, rfl⟩ (by kernel_rfl) rfl
    (fun f fn hf hfn => by
      obtain rfl : f = 4 := Option.some.inj ((show Tryd.prog.funcNamed "almagest/almagestlaw19.StoreOrder" = some 4 by kernel_rfl).symm.trans hf) |>.symm
      obtain rfl : fn = Tryd.f4 := (Option.some.inj (Tryd.func4.symm.trans hfn)).symm
      exact ⟨by kernel_rfl, fun j t ht => by
        rw [Tryd.params4] at ht
        have hm : t ∈ [3, 58, 3, 3] := by simpa using Array.mem_of_getElem? ht
        have hall : ([3, 58, 3, 3].all fun u => !Tryd.prog.wantsStandIn u) = true := by kernel_rfl
        exact (show Tryd.prog.wantsStandIn t = false by simpa using List.all_eq_true.1 hall t hm)⟩)
    (by kernel_rfl)
#print axioms proved
end Go.Proofs.YtnjmocobncncdaaDoor.storeOrder
