/-
  The walk of layer 3's statement TagTells over this seat's translation, out of the contracts: it returns true, and changes nothing that was there.
-/
import Derived.Test.YtebfdbibeecncaaDoorTagAwake
namespace Go.Proofs.YtebfdbibeecncaaDoor.Tg
open Go.ChangeShapes Go.WideShapes Go.ChangeAt Go.RowKit Go.Proofs.YtebfdbibeecncaaDoor.Num Go.Proofs.YtebfdbibeecncaaDoor.Mem Go.Proofs.YtebfdbibeecncaaDoor.Bt Go.Proofs.YtebfdbibeecncaaDoor.Sha Go.Proofs.YtebfdbibeecncaaDoor.Mp
set_option linter.unusedVariables false

set_option maxHeartbeats 1000000 in
set_option maxRecDepth 100000 in
theorem tagTells_any (s : ByteArray) (l : List (List Nat)) (P : Option Addr) (capL : Nat) (w : World) (hs : s.size ≤ maxLen) (hl : Parts w P l) (hm : l.length ≤ maxLen) (hk : w.rangeAt 1 0 (u32s ks)) (hk2 : w.rangeAt 0 0 (u32s ks)) :
    Calls Tryd.prog 3 #[.string s, .slice P l.length capL] w fun e w' => e = .returned (.bool true) ∧ Below w.heap.size w w' := by
  have hk1 : 1 < w.heap.size := range_lt hk (by simp [u32s, ks])
  have hk3 : 0 < w.heap.size := range_lt hk2 (by simp [u32s, ks])
  have HKW : Hid (∀ w', Below w.heap.size w w' → w'.rangeAt 1 0 (u32s ks)) := Lib.hid fun w' hb => range_block hk (hb.block _ hk1)
  have HKR : Hid (∀ w', Below w.heap.size w w' → w'.rangeAt 0 0 (u32s ks)) := Lib.hid fun w' hb => range_block hk2 (hb.block _ hk3)
  have HL := Lib.hid hl; have HM := Lib.hid hm; have HS := Lib.hid hs
  have HKS := Lib.hid (And.intro hk hk2)
  clear hk hk2 hl hm hs hk1 hk3
  go_enter Tryd.func3, Tryd.ntmps3
  go_wp2_with fail
  refine (awake_any w HKS.out.1 HKS.out.2).mono ?_
  rintro e w1 ⟨rfl, h1⟩
  go_wp2_with fail
  refine (large_any s l P capL w1 HS.out (HL.out.below h1) HM.out).mono ?_
  rintro e w2 ⟨⟨big, rfl, hbig⟩, rfl⟩
  cases big with
  | true =>
    go_wp2_with fail
    go_ret
    exact ⟨rfl, h1⟩
  | false =>
    obtain ⟨hb1, hb2, hb3⟩ := hbig rfl
    clear hbig
    have hE : ∀ w : World, (binOp .eql 32 (.agg (u8s (tagD s l)).toArray) (.agg (u8s (tagD s l)).toArray)).run Tryd.prog w = .ok (.bool true) w := run_eql_hash _ (tagD_len _ _)
    have HD := Lib.hid (rfl : tagD s l = tagD s l)
    by_cases hsh : s.size ≤ 255 ∧ l.length ≤ 255
    · go_wp2_with fail
      refine (img_short s l P capL w1 hsh.1 hsh.2 (by omega) (HL.out.below h1)).mono ?_
      rintro e w3 ⟨⟨p, cap, rfl, hOwn⟩, hB3⟩
      have bel3 : Below w.heap.size w w3 := below_step h1 h1.size hB3
      have hil : (image (bytesOf s) l).length ≤ 1000000 := by rw [image_length, bytesOf_length]; omega
      have hrd3 := hOwn.rd
      clear hOwn hB3
      go_wp2_with fail
      refine (rimg_short s l P capL w3 hsh.1 hsh.2 (by omega) (HL.out.below bel3)).mono ?_
      rintro e w4 ⟨⟨q, c, rfl, hOwn⟩, hB4⟩
      have bel4 : Below w.heap.size w w4 := below_step bel3 bel3.size hB4
      have hrd4 := hOwn.rd
      have hrd34 := hrd3.below hB4
      clear hOwn hB4 hrd3 bel3 h1
      generalize image (bytesOf s) l = im at hil hrd4 hrd34 ⊢
      go_wp2_with fail
      refine (same_any im im p q cap c w4 hrd34 hrd4 hil hil).mono ?_
      rw [decide_eq_true (rfl : im = im)]
      rintro e w5 ⟨rfl, hB5⟩
      have bel5 : Below w.heap.size w w5 := below_step bel4 bel4.size hB5
      clear hrd4 hrd34 hB5 bel4
      go_wp2_with fail
      refine (tagOf_any s l P capL w5 (by omega) (HL.out.below bel5) (HKW.out w5 bel5)).mono ?_
      rintro e w6 ⟨rfl, hB6⟩
      have bel6 : Below w.heap.size w w6 := below_step bel5 bel5.size hB6
      go_wp2_with fail
      refine (refTag_any s l P capL w6 (by omega) (HL.out.below bel6) (HKR.out w6 bel6)).mono ?_
      rintro e w7 ⟨rfl, hB7⟩
      have bel7 : Below w.heap.size w w7 := below_step bel6 bel6.size hB7
      generalize tagD s l = dg at hE ⊢
      clear HD
      go_wp2_with fail
      go_ret
      exact ⟨rfl, bel7⟩
    · go_wp2_with fail
      refine (img_long s l P capL w1 (by omega)).mono ?_
      rintro e w3 ⟨rfl, rfl⟩
      go_wp2_with fail
      refine (rimg_long s l P capL w1 (by omega)).mono ?_
      rintro e w4 ⟨rfl, rfl⟩
      go_wp2_with fail
      refine (same_any [] [] none none 0 0 w1 ⟨fun h => absurd rfl h⟩ ⟨fun h => absurd rfl h⟩ (by simp) (by simp)).mono ?_
      rw [decide_eq_true (rfl : ([] : List Nat) = [])]
      rintro e w5 ⟨rfl, hB5⟩
      have bel5 : Below w.heap.size w w5 := below_step h1 h1.size hB5
      clear hB5 h1
      go_wp2_with fail
      refine (tagOf_any s l P capL w5 (by omega) (HL.out.below bel5) (HKW.out w5 bel5)).mono ?_
      rintro e w6 ⟨rfl, hB6⟩
      have bel6 : Below w.heap.size w w6 := below_step bel5 bel5.size hB6
      go_wp2_with fail
      refine (refTag_any s l P capL w6 (by omega) (HL.out.below bel6) (HKR.out w6 bel6)).mono ?_
      rintro e w7 ⟨rfl, hB7⟩
      have bel7 : Below w.heap.size w w7 := below_step bel6 bel6.size hB7
      generalize tagD s l = dg at hE ⊢
      clear HD
      go_wp2_with fail
      go_ret
      exact ⟨rfl, bel7⟩
end Go.Proofs.YtebfdbibeecncaaDoor.Tg
