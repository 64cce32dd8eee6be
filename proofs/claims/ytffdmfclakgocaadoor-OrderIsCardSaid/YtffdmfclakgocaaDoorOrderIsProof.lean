/-
  OrderIs, of package order (promise P12.2): of any two keys that aren't the same one is greater, and what is greater than a greater one is greater, for any three keys; the call returns true, and its arguments read afterwards as before. Condition: the package-level table of sha starts as the program's text lays it (the tied card).
-/
import Derived.Test.YtffdmfclakgocaaDoorRows
import Derived.Test.YtffdmfclakgocaaDoorTie
import Derived.Test.YtffdmfclakgocaaDoorCards
import Derived.Test.YtffdmfclakgocaaDoorOrdLaws2
import Derived.Test.YtffdmfclakgocaaDoorStaReads
import Derived.SevenTiedAt
namespace Go.Proofs.YtffdmfclakgocaaDoor.orderIs
open Go.ChangeShapes Go.WideShapes Go.ChangeAt Go.WideMaps Go.WideElems Go.ChangeMaps Go.RowKit Go.Proofs.YtffdmfclakgocaaDoor.Sha Go.Proofs.YtffdmfclakgocaaDoor.Bt Go.Proofs.YtffdmfclakgocaaDoor.Sa Go.Proofs.YtffdmfclakgocaaDoor.Od
set_option linter.unusedVariables false
set_option linter.unusedSimpArgs false

theorem own : ownKnob Tryd.prog.godebug = none := by kernel_rfl
theorem laidOut : laidOutB Tryd.prog = true := by kernel_rfl
/-- The door's own heap meets the condition. -/
theorem door_met (os : Os) (args : Array Value) : laidMetH Tryd.prog Rows.orderIsRow.laid ((World.doorLaid Tryd.prog 19 os).forCall (fun _ _ => 0) ⟨#[], args, []⟩).memory :=
  laidMetH_of_parts3 (fuel := 8) (laidMet_of_run' 8 (by kernel_rfl) (by kernel_rfl)) (by kernel_rfl) (by kernel_rfl)
set_option maxRecDepth 100000 in
theorem lifted (os : Os) (started : os.Started) (H : Type) (enc : TypeId × Value → H) :
    ReturnsInHanded {} Tryd.checked os 4 .any (fun w args => (Rows.orderIsSpec.pre enc Tryd.prog Tryd.f4 [] false w args ∧ laidMetH Tryd.prog Rows.orderIsRow.laid w) ∧ sizedMet enc Tryd.prog Tryd.f4 (OpenSpec.ofChange Rows.orderIsSpec) false w args)
      (Rows.orderIsSpec.post enc Tryd.prog Tryd.f4 false true false false) := by
  refine returnsInHanded_of_change_and (C := Tryd.checked) (X := fun w _ => laidMetH Tryd.prog Rows.orderIsRow.laid w) (fun _ _ _ hh h => h.of_heap hh) own started (by kernel_rfl) Tryd.func4
    (ChangeSpec.witness_shaped (enc := enc) (C := Tryd.checked) (os := os) (X := fun w _ => laidMetH Tryd.prog Rows.orderIsRow.laid w) false (World.doorLaid Tryd.prog 19 os) #[.agg (Od.kcs Od.zk).toArray, .agg (Od.kcs Od.zk).toArray, .agg (Od.kcs Od.zk).toArray] 8 rfl (World.shaped_of_RefB (by kernel_rfl) (by kernel_rfl)) (by kernel_rfl) (by kernel_rfl) (by kernel_rfl) (door_met os _)) ?_
  intro W base args ds gs before hval0 hW _ _ hL _
  have hval : ∀ (j : Nat) t v, Tryd.f4.params[j]? = some t → args[j]? = some v → Value.okWide Tryd.prog W .any base t v := hval0
  have hW' := hW
  obtain ⟨p, q, hA0, hV, rfl, hfz, hnd⟩ := hW
  have hA : DataW.TrodAll enc Tryd.prog W 0 (fun _ => true) true Tryd.f4.params.toList args.toList ds p := hA0
  rw [Tryd.params4] at hA hval
  obtain ⟨v0, v1, v2, e0, e1, e2, p0, p1, p2, rfl, rfl, rfl, h0, h1, h2⟩ := trodAll_three hA
  obtain ⟨rfl, rfl⟩ := trodVars_none hV
  have hk := of_laidS hL
  clear hA0 hval0
  have h0k := h0
  obtain ⟨fuel0, h0t⟩ := h0
  obtain ⟨y0, hcs0, ky0⟩ := Od.key_of h0t
  obtain ⟨xs0, rfl, hsz0⟩ := okWide_struct (show Tryd.prog.underlying 37 = some (.struct (Tryd.prog.fieldsOf 37)) by kernel_rfl) (hval 0 37 v0 rfl rfl)
  obtain rfl : xs0 = (Od.kcs y0).toArray := by
    have e : xs0.toList = Od.kcs y0 := hcs0
    rw [← e]
  have h1k := h1
  obtain ⟨fuel1, h1t⟩ := h1
  obtain ⟨y1, hcs1, ky1⟩ := Od.key_of h1t
  obtain ⟨xs1, rfl, hsz1⟩ := okWide_struct (show Tryd.prog.underlying 37 = some (.struct (Tryd.prog.fieldsOf 37)) by kernel_rfl) (hval 1 37 v1 rfl rfl)
  obtain rfl : xs1 = (Od.kcs y1).toArray := by
    have e : xs1.toList = Od.kcs y1 := hcs1
    rw [← e]
  have h2k := h2
  obtain ⟨fuel2, h2t⟩ := h2
  obtain ⟨y2, hcs2, ky2⟩ := Od.key_of h2t
  obtain ⟨xs2, rfl, hsz2⟩ := okWide_struct (show Tryd.prog.underlying 37 = some (.struct (Tryd.prog.fieldsOf 37)) by kernel_rfl) (hval 2 37 v2 rfl rfl)
  obtain rfl : xs2 = (Od.kcs y2).toArray := by
    have e : xs2.toList = Od.kcs y2 := hcs2
    rw [← e]
  simp only [List.append_nil, List.nil_append] at hW'
  refine (orderIs_any y0 y1 y2 W ky0 ky1 ky2 hk).mono fun e W' ⟨he, hB⟩ => ?_
  subst he
  exact ⟨_, rfl, _, _, _, [], p0 ++ (p1 ++ p2), [], hW', trodAll_mk1 (shut_bool Tryd.underlying4 _), trodAll_mk3 (Below.trod laidOut (by kernel_rfl) (of_decide_eq_true (by kernel_rfl)) h0k hB (fun x hx => hW'.lt x (by simp [hx]))) (Below.trod laidOut (by kernel_rfl) (of_decide_eq_true (by kernel_rfl)) h1k hB (fun x hx => hW'.lt x (by simp [hx]))) (Below.trod laidOut (by kernel_rfl) (of_decide_eq_true (by kernel_rfl)) h2k hB (fun x hx => hW'.lt x (by simp [hx]))), rfl, hB.frame _, fun h => by cases h⟩
theorem over : Rows.OrderIsSaid :=
  OpenClaim.holds_of_wide 4 Tryd.f4 rfl rfl rfl rfl rfl rfl rfl ⟨rfl, rfl, rfl, rfl, rfl⟩ rfl rfl rfl rfl rfl (by kernel_rfl) Tryd.func4 (by kernel_rfl)
    (of_decide_eq_true (by kernel_rfl)) (by unfold Func.isWrapper; first | (rw [if_pos (by decide +kernel)]; kernel_rfl) | (rw [if_neg (by decide +kernel)]; exact ⟨rfl, rfl⟩))
    (fun os started H enc _ => lifted os started H enc)
/-- ████ THE STATEMENT: the tied card ████ -/
theorem proved : Rows.OrderIsCardSaid :=
  Claim7.holds_tied_plain_at .later [] [.data] true Rows.orderIsCard.stood.harness false
    over (fun _ h => by cases h) (by kernel_rfl) (fun _ h => by cases h) orderIs_row_tie rfl ⟨rfl, rfl⟩ (by kernel_rfl) rfl
    (fun f fn hf hfn => by
      obtain rfl : f = 4 := Option.some.inj ((show Tryd.prog.funcNamed "almagest/almagestlaw12.OrderIs" = some 4 by kernel_rfl).symm.trans hf) |>.symm
      obtain rfl : fn = Tryd.f4 := (Option.some.inj (Tryd.func4.symm.trans hfn)).symm
      exact ⟨by kernel_rfl, fun j t ht => by
        rw [Tryd.params4] at ht
        have hm : t ∈ [37, 37, 37] := by simpa using Array.mem_of_getElem? ht
        have hall : ([37, 37, 37].all fun u => !Tryd.prog.wantsStandIn u) = true := by kernel_rfl
        exact (show Tryd.prog.wantsStandIn t = false by simpa using List.all_eq_true.1 hall t hm)⟩)
    (by kernel_rfl)
#print axioms proved
end Go.Proofs.YtffdmfclakgocaaDoor.orderIs
