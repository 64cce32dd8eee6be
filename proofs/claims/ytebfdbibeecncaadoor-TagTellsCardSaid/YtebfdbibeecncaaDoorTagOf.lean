/-
  The contracts of tag.Of and of the document's Of (layer 3), over this seat's translation.
-/
import Derived.Test.YtebfdbibeecncaaDoorTagRefImage
import Derived.Test.YtebfdbibeecncaaDoorShaRef
import Derived.Test.YtebfdbibeecncaaDoorHashEq
namespace Go.Proofs.YtebfdbibeecncaaDoor.Tg
open Go.ChangeShapes Go.WideShapes Go.ChangeAt Go.RowKit Go.Proofs.YtebfdbibeecncaaDoor.Num Go.Proofs.YtebfdbibeecncaaDoor.Mem Go.Proofs.YtebfdbibeecncaaDoor.Bt Go.Proofs.YtebfdbibeecncaaDoor.Sha
set_option linter.unusedVariables false

/-- The digest of a name and parts; where there is no image the zero one. -/
def tagD (s : ByteArray) (l : List (List Nat)) : List Nat := if s.size ≤ 255 ∧ l.length ≤ 255 then digest (image (bytesOf s) l) else List.replicate 32 0
theorem digest32 (l : List Nat) : (digest l).length = 32 := outOf_len _
theorem tagD_len (s : ByteArray) (l : List (List Nat)) : (tagD s l).length = 32 := by
  unfold tagD; split
  · exact digest32 _
  · simp
theorem _root_.Go.Proofs.YtebfdbibeecncaaDoor.Bt.Own.nil {w : World} {base : Nat} {p : Option Addr} {cap : Nat} {bs : List Nat} (h : Own w base p cap bs) : p = none → cap = 0 := by
  rintro rfl
  rcases h.own.2 with ⟨hv, _⟩ | ⟨g, cap', cur, hv, _⟩
  · simp only [Value.slice.injEq] at hv; exact hv.2.2
  · simp at hv

set_option maxHeartbeats 1000000 in
set_option maxRecDepth 100000 in
theorem tagOf_any (s : ByteArray) (l : List (List Nat)) (P : Option Addr) (capL : Nat) (w : World) (ht : total l ≤ 800000) (hl : Parts w P l) (hk : w.rangeAt 1 0 (u32s ks)) :
    Calls Tryd.prog 11 #[.string s, .slice P l.length capL] w fun e w' => e = .returned (.agg (u8s (tagD s l)).toArray) ∧ Below w.heap.size w w' := by
  have HL := Lib.hid hl; have HK := Lib.hid hk
  have hk1 : 1 < w.heap.size := range_lt hk (by simp [u32s, ks])
  clear hl hk
  go_enter Tryd.func11, Tryd.ntmps11
  go_wp2_with (first
    | ((with_reducible refine arm_alloc (o := ⟨some 4, _, _, _, _, _⟩) rfl _ rfl _ z25 ?_); intro R w1 hRe hR1 hN1))
  have e1 := hRe.out; have z1 := hN1.size
  have lR : w.heap.size ≤ R := by omega
  by_cases hs : s.size ≤ 255 ∧ l.length ≤ 255
  · have HD := Lib.hid (show tagD s l = digest (image (bytesOf s) l) by unfold tagD; rw [if_pos hs])
    refine (img_short s l P capL w1 hs.1 hs.2 ht (HL.out.below hN1.below)).mono ?_
    rintro e w2 ⟨⟨p, cap, rfl, hOwn⟩, hB2⟩
    have bel2 : Below w.heap.size w w2 := below_step hN1.below (by omega) hB2
    have hRR2 := hR1.old hB2
    have hal : AllLt 256 (image (bytesOf s) l) := image_lt _ _ (by rw [bytesOf_length]; exact hs.1) hs.2 (bytesOf_lt s) HL.out.lt
    have hil : (image (bytesOf s) l).length ≤ 900000 := by rw [image_length, bytesOf_length]; omega
    have HAL := Lib.hid hal
    clear e1 z1 hRe hR1 hN1 hB2 hal
    generalize image (bytesOf s) l = im at HD hOwn HAL hil ⊢
    go_wp2_with fail
    refine (of_any im cap p w2 HAL.out hil hOwn.at.1 hOwn.bytes (range_block HK.out (bel2.block _ hk1))).mono ?_
    rintro e w3 ⟨rfl, hB3⟩
    have bel3 : Below w.heap.size w w3 := below_step bel2 bel2.size hB3
    have hRR3 := hRR2.old hB3
    have HD32 := Lib.hid (digest32 im)
    generalize digest im = dg at HD32 HD ⊢
    go_wp2_with (first
      | ((with_reducible refine arm_store (o := ⟨none, _, _, _, _, _⟩) rfl _ _ _ rfl R 0 rfl (u8s dg) rfl _ _ hRR3 (by rw [u8s_length, u8s_length, List.length_replicate, HD32.out]; omega) (u8s_one _) (by rw [u8s_length, HD32.out]; exact sz25) ?_); intro w4 hR4 hO4 hS4))
    refine bodyPost_ret (v := .agg (u8s dg).toArray) (result_row (p := 4) (ty := 32) (u := 32) (by kernel_rfl) _ _ R _ rfl (hR4.congr (lay_all _ _ (by rw [u8s_length, u8s_length, HD32.out]; simp))) (by rw [u8s_length, HD32.out]; exact sz25)) rfl ⟨by rw [HD.out], below_only bel3 hO4 lR bel3.size⟩
  · have HD := Lib.hid (show tagD s l = List.replicate 32 0 by unfold tagD; rw [if_neg hs])
    refine (img_long s l P capL w1 (by omega)).mono ?_
    rintro e w2 ⟨rfl, rfl⟩
    obtain ⟨zs, hzs⟩ : ∃ zs : List Nat, zs = List.replicate 32 0 := ⟨_, rfl⟩
    rw [← hzs] at HD hR1
    have HZ := Lib.hid hzs
    have HZL := Lib.hid (show zs.length = 32 by rw [hzs]; simp)
    clear hzs e1
    go_wp2_with (first
      | ((with_reducible refine at_slot 15 ?_); (refine arm_build (o := ⟨some 15, _, _, _, _, _⟩) rfl _ _ rfl (u8s zs) (by rw [HZ.out]; kernel_rfl) ?_))
      | ((with_reducible refine arm_store (o := ⟨none, _, _, _, _, _⟩) rfl _ _ _ rfl R 0 rfl (u8s zs) rfl _ _ hR1 (by rw [u8s_length]; omega) (u8s_one _) (by rw [u8s_length, HZL.out]; exact sz25) ?_); intro w4 hR4 hO4 hS4))
    refine bodyPost_ret (v := .agg (u8s zs).toArray) (result_row (p := 4) (ty := 32) (u := 32) (by kernel_rfl) _ _ R _ rfl (hR4.congr (lay_all _ _ rfl)) (by rw [u8s_length, HZL.out]; exact sz25)) rfl ⟨by rw [HD.out], below_only hN1.below hO4 lR hN1.below.size⟩
set_option maxHeartbeats 1000000 in
set_option maxRecDepth 100000 in
theorem refTag_any (s : ByteArray) (l : List (List Nat)) (P : Option Addr) (capL : Nat) (w : World) (ht : total l ≤ 800000) (hl : Parts w P l) (hk : w.rangeAt 0 0 (u32s ks)) :
    Calls Tryd.prog 12 #[.string s, .slice P l.length capL] w fun e w' => e = .returned (.agg (u8s (tagD s l)).toArray) ∧ Below w.heap.size w w' := by
  have HL := Lib.hid hl; have HK := Lib.hid hk
  have hk1 : 0 < w.heap.size := range_lt hk (by simp [u32s, ks])
  clear hl hk
  go_enter Tryd.func12, Tryd.ntmps12
  go_wp2_with (first
    | ((with_reducible refine arm_alloc (o := ⟨some 4, _, _, _, _, _⟩) rfl _ rfl _ z24 ?_); intro R w1 hRe hR1 hN1))
  have e1 := hRe.out; have z1 := hN1.size
  have lR : w.heap.size ≤ R := by omega
  by_cases hs : s.size ≤ 255 ∧ l.length ≤ 255
  · have HD := Lib.hid (show tagD s l = digest (image (bytesOf s) l) by unfold tagD; rw [if_pos hs])
    refine (rimg_short s l P capL w1 hs.1 hs.2 ht (HL.out.below hN1.below)).mono ?_
    rintro e w2 ⟨⟨p, cap, rfl, hOwn⟩, hB2⟩
    have bel2 : Below w.heap.size w w2 := below_step hN1.below (by omega) hB2
    have hRR2 := hR1.old hB2
    have hal : AllLt 256 (image (bytesOf s) l) := image_lt _ _ (by rw [bytesOf_length]; exact hs.1) hs.2 (bytesOf_lt s) HL.out.lt
    have hil : (image (bytesOf s) l).length ≤ 900000 := by rw [image_length, bytesOf_length]; omega
    have HAL := Lib.hid hal
    clear e1 z1 hRe hR1 hN1 hB2 hal
    generalize image (bytesOf s) l = im at HD hOwn HAL hil ⊢
    go_wp2_with fail
    refine (refOf_any im p cap w2 HAL.out hil hOwn.at.1 hOwn.nil hOwn.bytes (range_block HK.out (bel2.block _ hk1))).mono ?_
    rintro e w3 ⟨rfl, hB3⟩
    have bel3 : Below w.heap.size w w3 := below_step bel2 bel2.size hB3
    have hRR3 := hRR2.old hB3
    have HD32 := Lib.hid (digest32 im)
    generalize digest im = dg at HD32 HD ⊢
    go_wp2_with (first
      | ((with_reducible refine arm_store (o := ⟨none, _, _, _, _, _⟩) rfl _ _ _ rfl R 0 rfl (u8s dg) rfl _ _ hRR3 (by rw [u8s_length, u8s_length, List.length_replicate, HD32.out]; omega) (u8s_one _) (by rw [u8s_length, HD32.out]; exact sz24) ?_); intro w4 hR4 hO4 hS4))
    refine bodyPost_ret (v := .agg (u8s dg).toArray) (result_row (p := 4) (ty := 31) (u := 31) (by kernel_rfl) _ _ R _ rfl (hR4.congr (lay_all _ _ (by rw [u8s_length, u8s_length, HD32.out]; simp))) (by rw [u8s_length, HD32.out]; exact sz24)) rfl ⟨by rw [HD.out], below_only bel3 hO4 lR bel3.size⟩
  · have HD := Lib.hid (show tagD s l = List.replicate 32 0 by unfold tagD; rw [if_neg hs])
    refine (rimg_long s l P capL w1 (by omega)).mono ?_
    rintro e w2 ⟨rfl, rfl⟩
    obtain ⟨zs, hzs⟩ : ∃ zs : List Nat, zs = List.replicate 32 0 := ⟨_, rfl⟩
    rw [← hzs] at HD hR1
    have HZ := Lib.hid hzs
    have HZL := Lib.hid (show zs.length = 32 by rw [hzs]; simp)
    clear hzs e1
    go_wp2_with (first
      | ((with_reducible refine at_slot 15 ?_); (refine arm_build (o := ⟨some 15, _, _, _, _, _⟩) rfl _ _ rfl (u8s zs) (by rw [HZ.out]; kernel_rfl) ?_))
      | ((with_reducible refine arm_store (o := ⟨none, _, _, _, _, _⟩) rfl _ _ _ rfl R 0 rfl (u8s zs) rfl _ _ hR1 (by rw [u8s_length]; omega) (u8s_one _) (by rw [u8s_length, HZL.out]; exact sz24) ?_); intro w4 hR4 hO4 hS4))
    refine bodyPost_ret (v := .agg (u8s zs).toArray) (result_row (p := 4) (ty := 31) (u := 31) (by kernel_rfl) _ _ R _ rfl (hR4.congr (lay_all _ _ rfl)) (by rw [u8s_length, HZL.out]; exact sz24)) rfl ⟨by rw [HD.out], below_only hN1.below hO4 lR hN1.below.size⟩
end Go.Proofs.YtebfdbibeecncaaDoor.Tg
