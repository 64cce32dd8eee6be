/-
  OrderTells, of package order (promise P12.1): the key of any state, which of any two keys, or digests, is greater, and which of any keys is the greatest (of up to 40, as the statement has it; beyond that the law looks no further), are as the document's answer has it; the call returns true, and its arguments read afterwards as before. Condition: the two package-level tables start as the program's text lays them (the tied card).
-/
import Derived.Test.YtffdmfclakgocaaDoorRows
import Derived.Test.YtffdmfclakgocaaDoorTie
import Derived.Test.YtffdmfclakgocaaDoorCards
import Derived.Test.YtffdmfclakgocaaDoorOrdLaws
import Derived.Test.YtffdmfclakgocaaDoorStaReads
import Derived.SevenTiedAt
namespace Go.Proofs.YtffdmfclakgocaaDoor.orderTells
open Go.ChangeShapes Go.WideShapes Go.ChangeAt Go.WideMaps Go.WideElems Go.ChangeMaps Go.RowKit Go.Proofs.YtffdmfclakgocaaDoor.Sha Go.Proofs.YtffdmfclakgocaaDoor.Bt Go.Proofs.YtffdmfclakgocaaDoor.Sa Go.Proofs.YtffdmfclakgocaaDoor.Od
set_option linter.unusedVariables false
set_option linter.unusedSimpArgs false

theorem own : ownKnob Tryd.prog.godebug = none := by kernel_rfl
theorem laidOut : laidOutB Tryd.prog = true := by kernel_rfl
/-- The door's own heap meets the condition. -/
theorem door_met (os : Os) (args : Array Value) : laidMetH Tryd.prog Rows.orderTellsRow.laid ((World.doorLaid Tryd.prog 19 os).forCall (fun _ _ => 0) ⟨#[], args, []⟩).memory :=
  laidMetH_of_parts3 (fuel := 8) (laidMet_of_run' 8 (by kernel_rfl) (by kernel_rfl)) (by kernel_rfl) (by kernel_rfl)
set_option maxRecDepth 100000 in
theorem lifted (os : Os) (started : os.Started) (H : Type) (enc : TypeId × Value → H) :
    ReturnsInHanded {} Tryd.checked os 3 .any (fun w args => (Rows.orderTellsSpec.pre enc Tryd.prog Tryd.f3 [] false w args ∧ laidMetH Tryd.prog Rows.orderTellsRow.laid w) ∧ sizedMet enc Tryd.prog Tryd.f3 (OpenSpec.ofChange Rows.orderTellsSpec) false w args)
      (Rows.orderTellsSpec.post enc Tryd.prog Tryd.f3 false true false false) := by
  refine returnsInHanded_of_change_and (C := Tryd.checked) (X := fun w _ => laidMetH Tryd.prog Rows.orderTellsRow.laid w) (fun _ _ _ hh h => h.of_heap hh) own started (by kernel_rfl) Tryd.func3
    (ChangeSpec.witness_shaped (enc := enc) (C := Tryd.checked) (os := os) (X := fun w _ => laidMetH Tryd.prog Rows.orderTellsRow.laid w) false (World.doorLaid Tryd.prog 19 os) #[.agg (Sa.scs Sa.zs).toArray, .agg (Od.kcs Od.zk).toArray, .agg (Od.kcs Od.zk).toArray, .slice none 0 0] 8 rfl (World.shaped_of_RefB (by kernel_rfl) (by kernel_rfl)) (by kernel_rfl) (by kernel_rfl) (by kernel_rfl) (door_met os _)) ?_
  intro W base args ds gs before hval0 hW _ _ hL _
  have hval : ∀ (j : Nat) t v, Tryd.f3.params[j]? = some t → args[j]? = some v → Value.okWide Tryd.prog W .any base t v := hval0
  have hW' := hW
  obtain ⟨p, q, hA0, hV, rfl, hfz, hnd⟩ := hW
  have hA : DataW.TrodAll enc Tryd.prog W 0 (fun _ => true) true Tryd.f3.params.toList args.toList ds p := hA0
  rw [Tryd.params3] at hA hval
  obtain ⟨v0, v1, v2, v3, e0, e1, e2, e3, p0, p1, p2, p3, rfl, rfl, rfl, h0, h1, h2, h3⟩ := trodAll_four hA
  obtain ⟨rfl, rfl⟩ := trodVars_none hV
  obtain ⟨hk, hk2⟩ := of_laid2 hL
  clear hA0 hval0
  have h0k := h0
  obtain ⟨fuel0, h0t⟩ := h0
  obtain ⟨s0, hcs0, ks0⟩ := Sa.sta_of h0t
  obtain ⟨xs0, rfl, hsz0⟩ := okWide_struct Sa.sta_und (hval 0 35 v0 rfl rfl)
  obtain rfl : xs0 = (Sa.scs s0).toArray := by
    have e : xs0.toList = Sa.scs s0 := hcs0
    rw [← e]
  have h1k := h1
  obtain ⟨fuel1, h1t⟩ := h1
  obtain ⟨y1, hcs1, ky1⟩ := Od.key_of h1t
  obtain ⟨xs1, rfl, hsz1⟩ := okWide_struct (show Tryd.prog.underlying 37 = some (.struct (Tryd.prog.fieldsOf 37)) by kernel_rfl) (hval 1 37 v1 rfl rfl)
  obtain rfl : xs1 = (Od.kcs y1).toArray := by
    have e : xs1.toList = Od.kcs y1 := hcs1
    rw [← e]
  have h2k := h2
  obtain ⟨fuel2, h2t⟩ := h2
  obtain ⟨y2, hcs2, ky2⟩ := Od.key_of h2t
  obtain ⟨xs2, rfl, hsz2⟩ := okWide_struct (show Tryd.prog.underlying 37 = some (.struct (Tryd.prog.fieldsOf 37)) by kernel_rfl) (hval 2 37 v2 rfl rfl)
  obtain rfl : xs2 = (Od.kcs y2).toArray := by
    have e : xs2.toList = Od.kcs y2 := hcs2
    rw [← e]
  have h3k := h3
  obtain ⟨fuel3, h3t⟩ := h3
  obtain ⟨P3, l3, cc3, hcs3, hs3, hm3, hcap3⟩ := Sl.at_of Od.fK (fun h => Od.key_of h) (by kernel_rfl) h3t
  obtain ⟨a3, n3, cx3, rfl⟩ := okWide_slice Od.fK.und (hval 3 38 v3 rfl rfl)
  obtain ⟨rfl, rfl, rfl⟩ : a3 = P3 ∧ n3 = l3.length ∧ cx3 = cc3 := by simpa [Value.cells] using hcs3
  simp only [List.append_nil, List.nil_append] at hW'
  refine (orderTells_any s0 y1 y2 l3 a3 cx3 W ks0 ky1 ky2 hs3 hk hk2).mono fun e W' ⟨he, hB⟩ => ?_
  subst he
  exact ⟨_, rfl, _, _, _, [], p0 ++ (p1 ++ (p2 ++ p3)), [], hW', trodAll_mk1 (shut_bool Tryd.underlying4 _), trodAll_mk4 (Below.trod laidOut (by kernel_rfl) (of_decide_eq_true (by kernel_rfl)) h0k hB (fun x hx => hW'.lt x (by simp [hx]))) (Below.trod laidOut (by kernel_rfl) (of_decide_eq_true (by kernel_rfl)) h1k hB (fun x hx => hW'.lt x (by simp [hx]))) (Below.trod laidOut (by kernel_rfl) (of_decide_eq_true (by kernel_rfl)) h2k hB (fun x hx => hW'.lt x (by simp [hx]))) (Below.trod laidOut (by kernel_rfl) (of_decide_eq_true (by kernel_rfl)) h3k hB (fun x hx => hW'.lt x (by simp [hx]))), rfl, hB.frame _, fun h => by cases h⟩
theorem over : Rows.OrderTellsSaid :=
  OpenClaim.holds_of_wide 3 Tryd.f3 rfl rfl rfl rfl rfl rfl rfl ⟨rfl, rfl, rfl, rfl, rfl⟩ rfl rfl rfl rfl rfl (by kernel_rfl) Tryd.func3 (by kernel_rfl)
    (of_decide_eq_true (by kernel_rfl)) (by unfold Func.isWrapper; first | (rw [if_pos (by decide +kernel)]; kernel_rfl) | (rw [if_neg (by decide +kernel)]; exact ⟨rfl, rfl⟩))
    (fun os started H enc _ => lifted os started H enc)
/-- ████ THE STATEMENT: the tied card ████ -/
theorem proved : Rows.OrderTellsCardSaid :=
  Claim7.holds_tied_plain_at .later [] [.data, .data] true Rows.orderTellsCard.stood.harness false
    over (fun _ h => by cases h) (by kernel_rfl) (fun _ h => by cases h) orderTells_row_tie rfl ⟨rfl, rfl⟩ (by kernel_rfl) rfl
    (fun f fn hf hfn => by
      obtain rfl : f = 3 := Option.some.inj ((show Tryd.prog.funcNamed "almagest/almagestlaw12.OrderTells" = some 3 by kernel_rfl).symm.trans hf) |>.symm
      obtain rfl : fn = Tryd.f3 := (Option.some.inj (Tryd.func3.symm.trans hfn)).symm
      exact ⟨by kernel_rfl, fun j t ht => by
        rw [Tryd.params3] at ht
        have hm : t ∈ [35, 37, 37, 38] := by simpa using Array.mem_of_getElem? ht
        have hall : ([35, 37, 37, 38].all fun u => !Tryd.prog.wantsStandIn u) = true := by kernel_rfl
        exact (show Tryd.prog.wantsStandIn t = false by simpa using List.all_eq_true.1 hall t hm)⟩)
    (by kernel_rfl)
#print axioms proved
end Go.Proofs.YtffdmfclakgocaaDoor.orderTells
