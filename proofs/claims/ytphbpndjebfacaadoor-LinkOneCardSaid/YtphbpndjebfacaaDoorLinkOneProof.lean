/-
  LinkOne, of package link (promise P11.3): each child of a state that is right follows it; with one thing of it changed, but what its block has, it doesn't, and ErrLink is told; where there is no child the error is grow.Child's; the call returns true, and its arguments read afterwards as before. Condition: the package-level table of sha starts as the program's text lays it (the tied card).
-/
import Derived.Test.YtphbpndjebfacaaDoorRows
import Derived.Test.YtphbpndjebfacaaDoorTie
import Derived.Test.YtphbpndjebfacaaDoorCards
import Derived.Test.YtphbpndjebfacaaDoorLnkLaws2
import Derived.Test.YtphbpndjebfacaaDoorStaReads
import Derived.SevenTiedAt
namespace Go.Proofs.YtphbpndjebfacaaDoor.linkOne
open Go.ChangeShapes Go.WideShapes Go.ChangeAt Go.WideMaps Go.WideElems Go.ChangeMaps Go.RowKit Go.Proofs.YtphbpndjebfacaaDoor.Sha Go.Proofs.YtphbpndjebfacaaDoor.Bt Go.Proofs.YtphbpndjebfacaaDoor.Sa Go.Proofs.YtphbpndjebfacaaDoor.Gr Go.Proofs.YtphbpndjebfacaaDoor.Lk
set_option linter.unusedVariables false
set_option linter.unusedSimpArgs false

theorem own : ownKnob Tryd.prog.godebug = none := by kernel_rfl
theorem laidOut : laidOutB Tryd.prog = true := by kernel_rfl
/-- The door's own heap meets the condition. -/
theorem door_met (os : Os) (args : Array Value) : laidMetH Tryd.prog Rows.linkOneRow.laid ((World.doorLaid Tryd.prog 19 os).forCall (fun _ _ => 0) ⟨#[], args, []⟩).memory :=
  laidMetH_of_parts3 (fuel := 8) (laidMet_of_run' 8 (by kernel_rfl) (by kernel_rfl)) (by kernel_rfl) (by kernel_rfl)
set_option maxRecDepth 100000 in
theorem lifted (os : Os) (started : os.Started) (H : Type) (enc : TypeId × Value → H) :
    ReturnsInHanded {} Tryd.checked os 4 .any (fun w args => (Rows.linkOneSpec.pre enc Tryd.prog Tryd.f4 [] false w args ∧ laidMetH Tryd.prog Rows.linkOneRow.laid w) ∧ sizedMet enc Tryd.prog Tryd.f4 (OpenSpec.ofChange Rows.linkOneSpec) false w args)
      (Rows.linkOneSpec.post enc Tryd.prog Tryd.f4 false true false false) := by
  refine returnsInHanded_of_change_and (C := Tryd.checked) (X := fun w _ => laidMetH Tryd.prog Rows.linkOneRow.laid w) (fun _ _ _ hh h => h.of_heap hh) own started (by kernel_rfl) Tryd.func4
    (ChangeSpec.witness_shaped (enc := enc) (C := Tryd.checked) (os := os) (X := fun w _ => laidMetH Tryd.prog Rows.linkOneRow.laid w) false (World.doorLaid Tryd.prog 19 os) #[.agg (Sa.scs Sa.zs).toArray, .agg (Gr.gcs Gr.zg).toArray, .int .u8 0] 8 rfl (World.shaped_of_RefB (by kernel_rfl) (by kernel_rfl)) (by kernel_rfl) (by kernel_rfl) (by kernel_rfl) (door_met os _)) ?_
  intro W base args ds gs before hval0 hW _ _ hL _
  have hval : ∀ (j : Nat) t v, Tryd.f4.params[j]? = some t → args[j]? = some v → Value.okWide Tryd.prog W .any base t v := hval0
  have hW' := hW
  obtain ⟨p, q, hA0, hV, rfl, hfz, hnd⟩ := hW
  have hA : DataW.TrodAll enc Tryd.prog W 0 (fun _ => true) true Tryd.f4.params.toList args.toList ds p := hA0
  rw [Tryd.params4] at hA hval
  obtain ⟨v0, v1, v2, e0, e1, e2, p0, p1, p2, rfl, rfl, rfl, h0, h1, h2⟩ := trodAll_three hA
  obtain ⟨rfl, rfl⟩ := trodVars_none hV
  have hk := of_laidS hL
  clear hA0 hval0
  have h0k := h0
  obtain ⟨fuel0, h0t⟩ := h0
  obtain ⟨s0, hcs0, ks0⟩ := Sa.sta_of h0t
  obtain ⟨xs0, rfl, hsz0⟩ := okWide_struct Sa.sta_und (hval 0 35 v0 rfl rfl)
  obtain rfl : xs0 = (Sa.scs s0).toArray := by
    have e : xs0.toList = Sa.scs s0 := hcs0
    rw [← e]
  have h1k := h1
  obtain ⟨fuel1, h1t⟩ := h1
  obtain ⟨b1, hcs1, kb1⟩ := Gr.gb_of h1t
  obtain ⟨xs1, rfl, hsz1⟩ := okWide_struct Gr.gb_und (hval 1 57 v1 rfl rfl)
  obtain rfl : xs1 = (Gr.gcs b1).toArray := by
    have e : xs1.toList = Gr.gcs b1 := hcs1
    rw [← e]
  obtain ⟨r2, rfl, rfl, rfl, w2⟩ := open_int Tryd.underlying5 (hval 2 5 v2 rfl rfl) h2
  have kr2 : 0 ≤ r2 ∧ r2 < 256 := by have h := w2; simp [Lit.wf, IntKind.min, IntKind.max, IntKind.signed, IntKind.bits] at h; omega
  obtain ⟨n2, rfl⟩ : ∃ n : Nat, r2 = (n : Int) := ⟨r2.toNat, by omega⟩
  have hn2 : n2 < 256 := by omega
  simp only [List.append_nil, List.nil_append] at hW'
  refine (linkOne_any s0 b1 n2 W ks0 kb1 hn2 hk).mono fun e W' ⟨he, hB⟩ => ?_
  subst he
  exact ⟨_, rfl, _, _, _, [], p0 ++ (p1 ++ []), [], hW', trodAll_mk1 (shut_bool Tryd.underlying4 _), trodAll_mk3 (Below.trod laidOut (by kernel_rfl) (of_decide_eq_true (by kernel_rfl)) h0k hB (fun x hx => hW'.lt x (by simp [hx]))) (Below.trod laidOut (by kernel_rfl) (of_decide_eq_true (by kernel_rfl)) h1k hB (fun x hx => hW'.lt x (by simp [hx]))) (shut_int Tryd.underlying5 w2), rfl, hB.frame _, fun h => by cases h⟩
theorem over : Rows.LinkOneSaid :=
  OpenClaim.holds_of_wide 4 Tryd.f4 rfl rfl rfl rfl rfl rfl rfl ⟨rfl, rfl, rfl, rfl, rfl⟩ rfl rfl rfl rfl rfl (by kernel_rfl) Tryd.func4 (by kernel_rfl)
    (of_decide_eq_true (by kernel_rfl)) (by unfold Func.isWrapper; first | (rw [if_pos (by decide +kernel)]; kernel_rfl) | (rw [if_neg (by decide +kernel)]; exact ⟨rfl, rfl⟩))
    (fun os started H enc _ => lifted os started H enc)
/-- ████ THE STATEMENT: the tied card ████ -/
theorem proved : Rows.LinkOneCardSaid :=
  Claim7.holds_tied_plain_at .later [] [.data] true Rows.linkOneCard.stood.harness false
    over (fun _ h => by cases h) (by kernel_rfl) (fun _ h => by cases h) linkOne_row_tie rfl ⟨rfl, rfl⟩ (by kernel_rfl) rfl
    (fun f fn hf hfn => by
      obtain rfl : f = 4 := Option.some.inj ((show Tryd.prog.funcNamed "almagest/almagestlaw11.LinkOne" = some 4 by kernel_rfl).symm.trans hf) |>.symm
      obtain rfl : fn = Tryd.f4 := (Option.some.inj (Tryd.func4.symm.trans hfn)).symm
      exact ⟨by kernel_rfl, fun j t ht => by
        rw [Tryd.params4] at ht
        have hm : t ∈ [35, 57, 5] := by simpa using Array.mem_of_getElem? ht
        have hall : ([35, 57, 5].all fun u => !Tryd.prog.wantsStandIn u) = true := by kernel_rfl
        exact (show Tryd.prog.wantsStandIn t = false by simpa using List.all_eq_true.1 hall t hm)⟩)
    (by kernel_rfl)
#print axioms proved
end Go.Proofs.YtphbpndjebfacaaDoor.linkOne
