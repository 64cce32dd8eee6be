/-
  ShaParts, of package sha (promise P2.3): for every list of slices of bytes, what is written in parts has the digest that it has at once, what is asked for in between is the digest so far and changes nothing, and Len counts what was written (for up to 50 parts of up to 2000 bytes together, as the statement has it; beyond that the law looks no further); the call returns true, and its argument reads afterwards as before. Condition: the package-level table starts as the program's text lays it (the tied card).
-/
import Derived.Test.YtpkciokcegjcfaaDoorRows
import Derived.Test.YtpkciokcegjcfaaDoorTie
import Derived.Test.YtpkciokcegjcfaaDoorCards
import Derived.Test.YtpkciokcegjcfaaDoorShaLaws3
import Derived.Deep.Slices
import Derived.SevenTiedAt
namespace Go.Proofs.YtpkciokcegjcfaaDoor.shaParts
open Go.ChangeShapes Go.WideShapes Go.ChangeAt Go.WideMaps Go.WideElems Go.RowKit Go.Proofs.YtpkciokcegjcfaaDoor.Sha
set_option linter.unusedVariables false

theorem own : ownKnob Tryd.prog.godebug = none := by kernel_rfl
theorem laidOut : laidOutB Tryd.prog = true := by kernel_rfl
theorem walk (P : Option Addr) (n cap : Nat) (w : World) (hc : BRows w P n) (hm : n ≤ maxLen) (hk : w.rangeAt 1 0 (u32s ks)) :
    Calls Tryd.prog 4 #[.slice P n cap] w fun e w' => e = .returned (.bool true) ∧ Below w.heap.size w w' := by
  unfold maxLen at hm
  by_cases h : n ≤ 50
  · exact shaParts_small P n cap w h hc hk
  · exact shaParts_big P n cap w (by omega) (by omega) hk
theorem rows_of {H : Type} {enc : TypeId × Value → H} {w : World} {base : Nat} {spare : Nat → Bool} {held : Bool} {fuel : Nat} {cs : List Value} {x : DataW H × List MemPlace}
    (h : DataW.trod enc Tryd.prog w base spare held fuel 29 cs = some x) : ∃ P n cap, cs = [.slice P n cap] ∧ BRows w P n ∧ n ≤ maxLen := by
  rcases Deep.open_slice1 Tryd.underlying29 (by kernel_rfl) h with ⟨rfl, _⟩ | ⟨a, len, cap, m, k, V, D, Pl, rfl, _, hlc, hcm, hmm, _, hV⟩
  · exact ⟨none, 0, 0, rfl, ⟨fun h => by omega⟩, by unfold maxLen; omega⟩
  · refine ⟨some a, len, cap, rfl, ⟨fun hpos => ?_⟩, by omega⟩
    have hlm : len ≤ m := by rw [hmm]; split <;> omega
    have hc0 := (hV 0 (by omega)).1
    have hsp : a.spot = none := by
      simp only [Addr.add, if_true] at hc0
      unfold World.cell? at hc0
      split at hc0
      · split at hc0
        · cases hc0
        · rename_i hs; simpa using hs
      · cases hc0
    obtain ⟨g, o, sp⟩ := a
    simp only at hsp
    subst hsp
    refine ⟨g, o, rfl, block_lt_of_cell hc0, fun i hi => ?_⟩
    obtain ⟨hci, hti⟩ := hV i (by omega)
    rw [Addr.add_mid] at hci
    obtain ⟨p, c, bs, hv, hcame⟩ := came_of hti
    have : V i = .slice p bs.length c := by simpa using hv
    exact ⟨p, c, bs, by rw [hci, this], hcame⟩
/-- The door's own heap meets the condition. -/
theorem door_met (os : Os) (args : Array Value) : laidMetH Tryd.prog Rows.shaPartsRow.laid ((World.doorLaid Tryd.prog 19 os).forCall (fun _ _ => 0) ⟨#[], args, []⟩).memory :=
  laidMetH_of_parts3 (fuel := 8) (laidMet_of_run' 8 (by kernel_rfl) (by kernel_rfl)) (by kernel_rfl) (by kernel_rfl)
set_option maxRecDepth 100000 in
theorem lifted (os : Os) (started : os.Started) (H : Type) (enc : TypeId × Value → H) :
    ReturnsInHanded {} Tryd.checked os 4 .any (fun w args => (Rows.shaPartsSpec.pre enc Tryd.prog Tryd.f4 [] false w args ∧ laidMetH Tryd.prog Rows.shaPartsRow.laid w) ∧ sizedMet enc Tryd.prog Tryd.f4 (OpenSpec.ofChange Rows.shaPartsSpec) false w args)
      (Rows.shaPartsSpec.post enc Tryd.prog Tryd.f4 false true false false) := by
  refine returnsInHanded_of_change_and (C := Tryd.checked) (X := fun w _ => laidMetH Tryd.prog Rows.shaPartsRow.laid w) (fun _ _ _ hh h => h.of_heap hh) own started (by kernel_rfl) Tryd.func4
    (ChangeSpec.witness_shaped (enc := enc) (C := Tryd.checked) (os := os) (X := fun w _ => laidMetH Tryd.prog Rows.shaPartsRow.laid w) false (World.doorLaid Tryd.prog 19 os) #[.slice none 0 0] 8 rfl (World.shaped_of_RefB (by kernel_rfl) (by kernel_rfl)) (by kernel_rfl) (by kernel_rfl) (by kernel_rfl) (door_met os _)) ?_
  intro W base args ds gs before hval0 hW _ _ hL _
  have hW' := hW
  obtain ⟨p, q, hA0, hV, rfl, hfz, hnd⟩ := hW
  have hA : DataW.TrodAll enc Tryd.prog W 0 (fun _ => true) true Tryd.f4.params.toList args.toList ds p := hA0
  rw [Tryd.params4] at hA
  obtain ⟨v0, d0, rfl, rfl, h0⟩ := trodAll_one hA
  obtain ⟨rfl, rfl⟩ := trodVars_none hV
  have hk := of_laid1 hL
  have h0k := h0
  obtain ⟨fuel, h0t⟩ := h0
  obtain ⟨sp, n, cap, hcs, hrows, hmax⟩ := rows_of h0t
  have hval : Value.okWide Tryd.prog W .any base 29 v0 := hval0 0 29 v0 rfl rfl
  obtain ⟨a0, l0, c0, rfl⟩ := okWide_slice Tryd.underlying29 hval
  obtain ⟨rfl, rfl, rfl⟩ : a0 = sp ∧ l0 = n ∧ c0 = cap := by simpa [Value.cells] using hcs
  have hlt : ∀ x ∈ p, x.block < W.heap.size := fun x hx => hW'.lt x (by simpa using hx)
  refine (walk a0 l0 c0 W hrows hmax hk).mono fun e W' ⟨he, hB⟩ => ?_
  subst he
  exact ⟨_, rfl, _, _, _, [], p, [], hW', trodAll_mk1 (shut_bool Tryd.underlying4 _), trodAll_mk1 (Below.trod laidOut (by kernel_rfl) (of_decide_eq_true (by kernel_rfl)) h0k hB hlt), rfl, hB.frame _, fun h => by cases h⟩
theorem over : Rows.ShaPartsSaid :=
  OpenClaim.holds_of_wide 4 Tryd.f4 rfl rfl rfl rfl rfl rfl rfl ⟨rfl, rfl, rfl, rfl, rfl⟩ rfl rfl rfl rfl rfl (by kernel_rfl) Tryd.func4 (by kernel_rfl)
    (of_decide_eq_true (by kernel_rfl)) (by unfold Func.isWrapper; first | (rw [if_pos (by decide +kernel)]; kernel_rfl) | (rw [if_neg (by decide +kernel)]; exact ⟨rfl, rfl⟩))
    (fun os started H enc _ => lifted os started H enc)
/-- ████ THE STATEMENT: the tied card ████ -/
theorem proved : Rows.ShaPartsCardSaid :=
  Claim7.holds_tied_plain_at .later [] [.data] true (true, "d7678dada637657de9ee0c0ea38ee78e1d47429e7bd464b03bf9e09ebab112fe") false
    over (fun _ h => by cases h) (by kernel_rfl) (fun _ h => by cases h) shaParts_row_tie rfl ⟨rfl, rfl⟩ (by kernel_rfl) rfl
    (fun f fn hf hfn => by
      obtain rfl : f = 4 := Option.some.inj ((show Tryd.prog.funcNamed "almagest/almagestlaw02.ShaParts" = some 4 by kernel_rfl).symm.trans hf) |>.symm
      obtain rfl : fn = Tryd.f4 := (Option.some.inj (Tryd.func4.symm.trans hfn)).symm
      exact ⟨by kernel_rfl, fun j t ht => by
        rw [Tryd.params4] at ht
        have hm : t ∈ [29] := by simpa using Array.mem_of_getElem? ht
        have hall : ([29].all fun u => !Tryd.prog.wantsStandIn u) = true := by kernel_rfl
        exact (show Tryd.prog.wantsStandIn t = false by simpa using List.all_eq_true.1 hall t hm)⟩)
    (by kernel_rfl)
#print axioms proved
end Go.Proofs.YtpkciokcegjcfaaDoor.shaParts
