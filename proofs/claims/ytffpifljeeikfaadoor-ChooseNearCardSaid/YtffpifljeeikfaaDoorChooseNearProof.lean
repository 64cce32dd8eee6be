/-
  ChooseNear, of package choose (promise P13.3): of candidates that are right, all near one another and near the tip, the tip that is kept is the one with the greatest key, in whatever order they stand (of up to 20 with the tip, as the statement has it; beyond that the law looks no further, however many come in); the call returns true, and its arguments read afterwards as before. Condition: the package-level table of sha starts as the program's text lays it (the tied card).
-/
import Derived.Test.YtffpifljeeikfaaDoorRows
import Derived.Test.YtffpifljeeikfaaDoorTie
import Derived.Test.YtffpifljeeikfaaDoorCards
import Derived.Test.YtffpifljeeikfaaDoorChoLaws3
import Derived.Test.YtffpifljeeikfaaDoorStaReads
import Derived.SevenTiedAt
namespace Go.Proofs.YtffpifljeeikfaaDoor.chooseNear
open Go.ChangeShapes Go.WideShapes Go.ChangeAt Go.WideMaps Go.WideElems Go.ChangeMaps Go.RowKit Go.Proofs.YtffpifljeeikfaaDoor.Sha Go.Proofs.YtffpifljeeikfaaDoor.Bt Go.Proofs.YtffpifljeeikfaaDoor.Sa Go.Proofs.YtffpifljeeikfaaDoor.Cz
set_option linter.unusedVariables false
set_option linter.unusedSimpArgs false

theorem own : ownKnob Tryd.prog.godebug = none := by kernel_rfl
theorem laidOut : laidOutB Tryd.prog = true := by kernel_rfl
/-- The door's own heap meets the condition. -/
theorem door_met (os : Os) (args : Array Value) : laidMetH Tryd.prog Rows.chooseNearRow.laid ((World.doorLaid Tryd.prog 19 os).forCall (fun _ _ => 0) ⟨#[], args, []⟩).memory :=
  laidMetH_of_parts3 (fuel := 8) (laidMet_of_run' 8 (by kernel_rfl) (by kernel_rfl)) (by kernel_rfl) (by kernel_rfl)
set_option maxRecDepth 100000 in
theorem lifted (os : Os) (started : os.Started) (H : Type) (enc : TypeId × Value → H) :
    ReturnsInHanded {} Tryd.checked os 4 .any (fun w args => (Rows.chooseNearSpec.pre enc Tryd.prog Tryd.f4 [] false w args ∧ laidMetH Tryd.prog Rows.chooseNearRow.laid w) ∧ sizedMet enc Tryd.prog Tryd.f4 (OpenSpec.ofChange Rows.chooseNearSpec) false w args)
      (Rows.chooseNearSpec.post enc Tryd.prog Tryd.f4 false true false false) := by
  refine returnsInHanded_of_change_and (C := Tryd.checked) (X := fun w _ => laidMetH Tryd.prog Rows.chooseNearRow.laid w) (fun _ _ _ hh h => h.of_heap hh) own started (by kernel_rfl) Tryd.func4
    (ChangeSpec.witness_shaped (enc := enc) (C := Tryd.checked) (os := os) (X := fun w _ => laidMetH Tryd.prog Rows.chooseNearRow.laid w) false (World.doorLaid Tryd.prog 19 os) #[.agg (Sa.scs Sa.zs).toArray, .slice none 0 0, .int .i64 0, .int .i64 0] 8 rfl (World.shaped_of_RefB (by kernel_rfl) (by kernel_rfl)) (by kernel_rfl) (by kernel_rfl) (by kernel_rfl) (door_met os _)) ?_
  intro W base args ds gs before hval0 hW _ hwt hL _
  have hval : ∀ (j : Nat) t v, Tryd.f4.params[j]? = some t → args[j]? = some v → Value.okWide Tryd.prog W .any base t v := hval0
  have hW' := hW
  obtain ⟨p, q, hA0, hV, rfl, hfz, hnd⟩ := hW
  have hA : DataW.TrodAll enc Tryd.prog W 0 (fun _ => true) true Tryd.f4.params.toList args.toList ds p := hA0
  rw [Tryd.params4] at hA hval
  obtain ⟨v0, v1, v2, v3, e0, e1, e2, e3, p0, p1, p2, p3, rfl, rfl, rfl, h0, h1, h2, h3⟩ := trodAll_four hA
  obtain ⟨rfl, rfl⟩ := trodVars_none hV
  have hk := of_laidS hL
  clear hA0 hval0
  have h0k := h0
  obtain ⟨fuel0, h0t⟩ := h0
  obtain ⟨s0, hcs0, ks0⟩ := Sa.sta_of h0t
  obtain ⟨xs0, rfl, hsz0⟩ := okWide_struct Sa.sta_und (hval 0 35 v0 rfl rfl)
  obtain rfl : xs0 = (Sa.scs s0).toArray := by
    have e : xs0.toList = Sa.scs s0 := hcs0
    rw [← e]
  have h1k := h1
  obtain ⟨fuel1, h1t⟩ := h1
  obtain ⟨P1, l1, cc1, hcs1, hs1, hm1, hcap1, hlen1⟩ := Sl.at_of2 Lk.fS (fun h => Sa.sta_of h) (by kernel_rfl) h1t
  obtain ⟨a1, n1, cx1, rfl⟩ := okWide_slice Lk.fS.und (hval 1 38 v1 rfl rfl)
  obtain ⟨rfl, rfl, rfl⟩ : a1 = P1 ∧ n1 = l1.length ∧ cx1 = cc1 := by simpa [Value.cells] using hcs1
  have hby1 : l1.length * 396 ≤ 140737488351232 := by
    rcases hlen1 with h | ⟨es, sp, he, hl⟩
    · rw [h]; omega
    · have h2 : (es.length + sp.length) * Tryd.prog.bytesOf 35 ≤ reachBytes := sized_slice hwt (j := 1) (t := 38) (e := 35) (elems := es) (spare := sp) (by kernel_rfl) (congrArg some he) (by kernel_rfl)
      rw [show Tryd.prog.bytesOf 35 = 396 by kernel_rfl, hl, Nat.add_mul, show reachBytes = 140737488351232 from rfl] at h2
      omega
  obtain ⟨r2, rfl, rfl, rfl, w2⟩ := open_int Tryd.underlying3 (hval 2 3 v2 rfl rfl) h2
  have kr2 : -9223372036854775808 ≤ r2 ∧ r2 ≤ 9223372036854775807 := by have h := w2; simp [Lit.wf, IntKind.min, IntKind.max, IntKind.signed, IntKind.bits] at h; omega
  obtain ⟨r3, rfl, rfl, rfl, w3⟩ := open_int Tryd.underlying3 (hval 3 3 v3 rfl rfl) h3
  have kr3 : -9223372036854775808 ≤ r3 ∧ r3 ≤ 9223372036854775807 := by have h := w3; simp [Lit.wf, IntKind.min, IntKind.max, IntKind.signed, IntKind.bits] at h; omega
  simp only [List.append_nil, List.nil_append] at hW'
  refine (chooseNear_any s0 l1 a1 cx1 r2 r3 W ks0 hs1 hcap1 hm1 hby1 hk).mono fun e W' ⟨he, hB⟩ => ?_
  subst he
  exact ⟨_, rfl, _, _, _, [], p0 ++ (p1 ++ ([] ++ [])), [], hW', trodAll_mk1 (shut_bool Tryd.underlying4 _), trodAll_mk4 (Below.trod laidOut (by kernel_rfl) (of_decide_eq_true (by kernel_rfl)) h0k hB (fun x hx => hW'.lt x (by simp [hx]))) (Below.trod laidOut (by kernel_rfl) (of_decide_eq_true (by kernel_rfl)) h1k hB (fun x hx => hW'.lt x (by simp [hx]))) (shut_int Tryd.underlying3 w2) (shut_int Tryd.underlying3 w3), rfl, hB.frame _, fun h => by cases h⟩
theorem over : Rows.ChooseNearSaid :=
  OpenClaim.holds_of_wide 4 Tryd.f4 rfl rfl rfl rfl rfl rfl rfl ⟨rfl, rfl, rfl, rfl, rfl⟩ rfl rfl rfl rfl rfl (by kernel_rfl) Tryd.func4 (by kernel_rfl)
    (of_decide_eq_true (by kernel_rfl)) (by unfold Func.isWrapper; first | (rw [if_pos (by decide +kernel)]; kernel_rfl) | (rw [if_neg (by decide +kernel)]; exact ⟨rfl, rfl⟩))
    (fun os started H enc _ => lifted os started H enc)
/-- ████ THE STATEMENT: the tied card ████ -/
theorem proved : Rows.ChooseNearCardSaid :=
  Claim7.holds_tied_plain_at .later [] [.data] true Rows.chooseNearCard.stood.harness false
    over (fun _ h => by cases h) (by kernel_rfl) (fun _ h => by cases h) chooseNear_row_tie rfl ⟨rfl, rfl⟩ (by kernel_rfl) rfl
    (fun f fn hf hfn => by
      obtain rfl : f = 4 := Option.some.inj ((show Tryd.prog.funcNamed "almagest/almagestlaw13.ChooseNear" = some 4 by kernel_rfl).symm.trans hf) |>.symm
      obtain rfl : fn = Tryd.f4 := (Option.some.inj (Tryd.func4.symm.trans hfn)).symm
      exact ⟨by kernel_rfl, fun j t ht => by
        rw [Tryd.params4] at ht
        have hm : t ∈ [35, 38, 3, 3] := by simpa using Array.mem_of_getElem? ht
        have hall : ([35, 38, 3, 3].all fun u => !Tryd.prog.wantsStandIn u) = true := by kernel_rfl
        exact (show Tryd.prog.wantsStandIn t = false by simpa using List.all_eq_true.1 hall t hm)⟩)
    (by kernel_rfl)
#print axioms proved
end Go.Proofs.YtffpifljeeikfaaDoor.chooseNear
