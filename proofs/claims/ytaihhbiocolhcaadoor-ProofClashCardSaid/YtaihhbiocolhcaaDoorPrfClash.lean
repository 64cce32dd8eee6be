/-
  The contract of package proof's Clash: of two claims that meet, the images at the first height at which the digests are the same. Over this seat's translation.
-/
import Derived.Test.YtaihhbiocolhcaaDoorPrfImage
namespace Go.Proofs.YtaihhbiocolhcaaDoor.Pf
open Go.ChangeShapes Go.WideShapes Go.ChangeAt Go.RowKit Go.Proofs.YtaihhbiocolhcaaDoor.Mem Go.Proofs.YtaihhbiocolhcaaDoor.Bt Go.Proofs.YtaihhbiocolhcaaDoor.Wi Go.Proofs.YtaihhbiocolhcaaDoor.Sha Go.Proofs.YtaihhbiocolhcaaDoor.Ac Go.Proofs.YtaihhbiocolhcaaDoor.Tr
open Go.Proofs.YtaihhbiocolhcaaDoor.Tg (bytesOf bytesOf_length bytesOf_lt bytesOf_inj Rd Rd.below Parts parts_one arm_one tagD tagD_len tagOf_any refTag_any total image image_inj image_length)
open Go.Proofs.YtaihhbiocolhcaaDoor.Ep (H32 zh zh_ok Has h_len szH zH fitH allH came_at one_app)
set_option linter.unusedVariables false
set_option linter.unusedSimpArgs false

theorem res_three {fn : Func} {t u x : Tmp} (h : fn.results = #[.tmp t, .tmp u, .tmp x]) (tmps : Array Value) (P : Program) (w : World) :
    (results fn tmps).run P w = .ok (.tuple #[tmps.getD t undef, tmps.getD u undef, tmps.getD x undef]) w := by
  simp [results, h]
theorem meet_true {p : Int} {a b : Acct} {L M : List (List Nat)} (h : meetB p a L b M = true) : NRt a.nm ∧ NRt b.nm ∧ (0 ≤ p ∧ p < 16) ∧ leadK p.toNat L (digA a) 4 = leadK p.toNat M (digA b) 4 ∧ ¬ a = b := by
  unfold meetB at h
  have h1 := of_decide_eq_true h
  obtain ⟨ha, hp⟩ := endE_zero h1.1
  obtain ⟨hb, _⟩ := endE_zero h1.2.1
  have h2 := h1.2.2.1
  unfold endD at h2
  rw [if_pos ha, if_pos hb] at h2
  unfold leadI at h2
  rw [if_pos hp, if_pos hp] at h2
  exact ⟨ha, hb, hp, h2, h1.2.2.2⟩
theorem meet_of {p : Int} {a b : Acct} {L M : List (List Nat)} (ha : NRt a.nm) (hb : NRt b.nm) (hp : 0 ≤ p ∧ p < 16) (h : leadK p.toNat L (digA a) 4 = leadK p.toNat M (digA b) 4) (hab : ¬ a = b) : meetB p a L b M = true := by
  unfold meetB
  refine decide_eq_true ⟨endE_in ha hp, endE_in hb hp, ?_, hab⟩
  unfold endD leadI
  rw [if_pos ha, if_pos hb, if_pos hp, if_pos hp, h]
/-- What Clash answers: nothing; or the images at the first height at which the digests are the same. -/
structure ClPost (w : World) (p : Int) (a b : Acct) (L M : List (List Nat)) (e : Ending) (w' : World) : Prop where
  no : meetB p a L b M = false → e = .returned (.tuple #[.slice none 0 0, .slice none 0 0, .bool false])
  yes : meetB p a L b M = true → ∃ i q c r d, i ≤ 4 ∧ leadK p.toNat L (digA a) i = leadK p.toNat M (digA b) i ∧ (∀ j, j < i → ¬ leadK p.toNat L (digA a) j = leadK p.toNat M (digA b) j) ∧ e = .returned (.tuple #[.slice q (imgK p.toNat L a i).length c, .slice r (imgK p.toNat M b i).length d, .bool true]) ∧ Came w' q c (imgK p.toNat L a i) ∧ Came w' r d (imgK p.toNat M b i)
  bel : Below w.heap.size w w'
/-- A node's variable behind so many rounds. -/
def nodC (p : Nat) (L : List (List Nat)) (leaf : List Nat) : Nat → List Value
  | 0 => zn
  | k + 1 => ncs (k + 1) (lft p k (leadK p L leaf k) (L.getD k [])) (rgt p k (leadK p L leaf k) (L.getD k [])) (leadK p L leaf (k + 1))
theorem nodC_len {p : Nat} {L : List (List Nat)} {leaf : List Nat} (h : P4 L) (kl : H32 leaf) : ∀ k, k ≤ 4 → (nodC p L leaf k).length = 97
  | 0, _ => zn_len
  | k + 1, hk => ncs_len (lft_ok (lead_ok kl k) (h.at (by omega))) (rgt_ok (lead_ok kl k) (h.at (by omega))) (lead_ok kl (k + 1))
structure ClRel (w : World) (B X Y K1 S1 P1 K2 S2 P2 q : Nat) (L M : List (List Nat)) (a b : Acct) (i : Value) (wr : World) : Prop where
  ex : ∃ k : Nat, k ≤ 4 ∧ i = .int .i64 (k : Int) ∧ UpAt wr K1 S1 P1 q k (leadK q L (digA a) k) ∧ UpAt wr K2 S2 P2 q k (leadK q M (digA b) k) ∧ Row wr X 74 (nodC q L (digA a) k) ∧ Row wr Y 74 (nodC q M (digA b) k) ∧ (∀ j, j ≤ k → ¬ leadK q L (digA a) j = leadK q M (digA b) j)
  rb : Row wr B 60 (clc b M)
  bel : Below w.heap.size w wr
set_option maxHeartbeats 4000000 in
set_option maxRecDepth 100000 in
theorem clash_any (p : Int) (a b : Acct) (L M : List (List Nat)) (w : World) (ka : a.Ok) (kb : b.Ok) (h4 : P4 L) (g4 : P4 M) (hk : w.rangeAt 1 0 (u32s ks)) :
    Calls Tryd.prog 24 #[.int .i64 p, .agg (clc a L).toArray, .agg (clc b M).toArray] w (ClPost w p a b L M) := by
  have hk1 : 1 < w.heap.size := range_lt hk (by simp [u32s, ks])
  have HKW : Hid (∀ w', Below w.heap.size w w' → w'.rangeAt 1 0 (u32s ks)) := Lib.hid fun w' hb => range_block hk (hb.block _ hk1)
  have KA := Lib.hid (sz_acc a); have KB := Lib.hid (sz_acc b)
  have SA := Lib.hid (sz_claim a h4); have SB := Lib.hid (sz_claim b g4)
  have CM := Lib.hid (fun w0 h => meet_any p a b L M w0 ka kb h4 g4 h)
  have H4 := Lib.hid h4; have G4 := Lib.hid g4; have HKA := Lib.hid ka; have HKB := Lib.hid kb
  have SPL := Lib.hid (sz_path h4.ok h4.len)
  clear hk hk1 ka kb h4 g4
  cases hm : meetB p a L b M with
  | false =>
    rw [hm] at CM
    have HM := Lib.hid hm
    clear hm
    go_enter Tryd.func24, Tryd.ntmps24
    go_wp2_with (first
      | ((with_reducible refine at_slot 4 ?_); (refine arm_box (o := ⟨some 4, _, _, _, _, _⟩) rfl _ _ rfl (clc a L) rfl ?_); intro A v1 Ae hv1 nv1; try simp only [Act.put, List.setIfInBounds_toArray, List.set_cons_zero, List.set_cons_succ])
      | ((with_reducible refine at_slot 5 ?_); (refine arm_box (o := ⟨some 5, _, _, _, _, _⟩) rfl _ _ rfl (clc b M) rfl ?_); intro B v2 Be hv2 nv2; try simp only [Act.put, List.setIfInBounds_toArray, List.set_cons_zero, List.set_cons_succ])
      | ((with_reducible refine at_slot 20 ?_); (refine pause ?_); try simp only [Act.put, List.setIfInBounds_toArray, List.set_cons_zero, List.set_cons_succ]))
    have hbv1 := nv1.below
    have rrv1 : Row v1 A 60 (clc a L) := hv1
    have hbv2 := nv2.below
    have rrv2 : Row v2 B 60 (clc b M) := hv2
    have geA : w.heap.size ≤ A := by have := Ae.out; omega
    clear hv1 nv1 Ae
    have bel_3 : Below w.heap.size w v1 := hbv1
    clear hbv1
    have geB : w.heap.size ≤ B := by have := Be.out; have := bel_3.size; omega
    have ltAB : A < B := by have := Be.out; have := rrv1.lt; omega
    clear hv2 nv2 Be
    have A_4 : Row v2 A 60 (clc a L) := rrv1.old hbv2
    have bel_4 : Below w.heap.size w v2 := below_step bel_3 bel_3.size hbv2
    clear rrv1 bel_3 hbv2
    refine go_on ?_
    go_wp2_with (first
      | ((with_reducible refine at_slot 20 ?_); (refine arm_load (o := ⟨some 20, _, _, _, _, _⟩) rfl _ _ rfl A 0 rfl (clc a L) ((Has.refl _).range A_4) SA.out ?_); try simp only [Act.put, List.setIfInBounds_toArray, List.set_cons_zero, List.set_cons_succ])
      | ((with_reducible refine at_slot 21 ?_); (refine arm_load (o := ⟨some 21, _, _, _, _, _⟩) rfl _ _ rfl B 0 rfl (clc b M) ((Has.refl _).range rrv2) SB.out ?_); try simp only [Act.put, List.setIfInBounds_toArray, List.set_cons_zero, List.set_cons_succ]))
    refine (CM.out _ (HKW.out _ bel_4)).mono ?_
    rintro e y5 ⟨rfl, hB⟩
    have A_6 : Row y5 A 60 (clc a L) := A_4.old hB
    have B_6 : Row y5 B 60 (clc b M) := rrv2.old hB
    have bel_6 : Below w.heap.size w y5 := below_step bel_4 bel_4.size hB
    clear A_4 rrv2 bel_4 hB
    go_wp2_with fail
    refine bodyPost_ret (res_three rfl _ _ _) rfl ?_
    exact ⟨fun _ => rfl, fun h => absurd (HM.out.symm.trans h) Bool.false_ne_true, bel_6⟩
  | true =>
    rw [hm] at CM
    have HM := Lib.hid hm
    obtain ⟨hra, hrb, hp, hlead, hab⟩ := meet_true hm
    obtain ⟨q, rfl⟩ : ∃ q : Nat, p = (q : Int) := ⟨p.toNat, by omega⟩
    rw [Int.toNat_natCast] at hlead
    have HQ : Hid (q < 16) := Lib.hid (by omega)
    have HLEAD := Lib.hid hlead
    have CHA : Hid (∀ w0, w0.rangeAt 1 0 (u32s ks) → Calls Tryd.prog 27 #[.agg (acs a).toArray] w0 fun e w' => e = .returned (.tuple #[.agg (u8s (digA a)).toArray, .int .i64 0]) ∧ Below w0.heap.size w0 w') := Lib.hid fun w0 h => (ahash_any a w0 HKA.out h).mono fun e w' h => ⟨by
          have h3 := h.ret
          rw [show ansH a = digA a from if_pos hra, show ansE a = 0 from if_pos hra] at h3
          exact h3, h.bel⟩
    have CHB : Hid (∀ w0, w0.rangeAt 1 0 (u32s ks) → Calls Tryd.prog 27 #[.agg (acs b).toArray] w0 fun e w' => e = .returned (.tuple #[.agg (u8s (digA b)).toArray, .int .i64 0]) ∧ Below w0.heap.size w0 w') := Lib.hid fun w0 h => (ahash_any b w0 HKB.out h).mono fun e w' h => ⟨by
          have h3 := h.ret
          rw [show ansH b = digA b from if_pos hrb, show ansE b = 0 from if_pos hrb] at h3
          exact h3, h.bel⟩
    have CIA := Lib.hid (fun w0 => limg_any a w0 HKA.out hra)
    have CIB := Lib.hid (fun w0 => limg_any b w0 HKB.out hrb)
    have KD := Lib.hid (digA_ok a); have KE := Lib.hid (digA_ok b)
    have HN : Hid (((q : Nat) : Int).toNat = q) := Lib.hid (Int.toNat_natCast q)
    clear hm hp hlead hra hrb hab
    obtain ⟨da, hda⟩ : ∃ d, d = digA a := ⟨_, rfl⟩
    obtain ⟨db, hdb⟩ : ∃ d, d = digA b := ⟨_, rfl⟩
    have HDA := Lib.hid hda; have HDB := Lib.hid hdb
    rw [← hda] at CHA KD HLEAD
    rw [← hdb] at CHB KE HLEAD
    clear hda hdb
    by_cases he : da = db
    · have HE := Lib.hid he
      clear he
      go_enter Tryd.func24, Tryd.ntmps24
      go_wp2_with (first
        | ((with_reducible refine at_slot 4 ?_); (refine arm_box (o := ⟨some 4, _, _, _, _, _⟩) rfl _ _ rfl (clc a L) rfl ?_); intro A v1 Ae hv1 nv1; try simp only [Act.put, List.setIfInBounds_toArray, List.set_cons_zero, List.set_cons_succ])
        | ((with_reducible refine at_slot 5 ?_); (refine arm_box (o := ⟨some 5, _, _, _, _, _⟩) rfl _ _ rfl (clc b M) rfl ?_); intro B v2 Be hv2 nv2; try simp only [Act.put, List.setIfInBounds_toArray, List.set_cons_zero, List.set_cons_succ])
        | ((with_reducible refine at_slot 20 ?_); (refine pause ?_); try simp only [Act.put, List.setIfInBounds_toArray, List.set_cons_zero, List.set_cons_succ]))
      have hbv1 := nv1.below
      have rrv1 : Row v1 A 60 (clc a L) := hv1
      have hbv2 := nv2.below
      have rrv2 : Row v2 B 60 (clc b M) := hv2
      have geA : w.heap.size ≤ A := by have := Ae.out; omega
      clear hv1 nv1 Ae
      have bel_3 : Below w.heap.size w v1 := hbv1
      clear hbv1
      have geB : w.heap.size ≤ B := by have := Be.out; have := bel_3.size; omega
      have ltAB : A < B := by have := Be.out; have := rrv1.lt; omega
      clear hv2 nv2 Be
      have A_4 : Row v2 A 60 (clc a L) := rrv1.old hbv2
      have bel_4 : Below w.heap.size w v2 := below_step bel_3 bel_3.size hbv2
      clear rrv1 bel_3 hbv2
      refine go_on ?_
      go_wp2_with (first
        | ((with_reducible refine at_slot 20 ?_); (refine arm_load (o := ⟨some 20, _, _, _, _, _⟩) rfl _ _ rfl A 0 rfl (clc a L) ((Has.refl _).range A_4) SA.out ?_); try simp only [Act.put, List.setIfInBounds_toArray, List.set_cons_zero, List.set_cons_succ])
        | ((with_reducible refine at_slot 21 ?_); (refine arm_load (o := ⟨some 21, _, _, _, _, _⟩) rfl _ _ rfl B 0 rfl (clc b M) ((Has.refl _).range rrv2) SB.out ?_); try simp only [Act.put, List.setIfInBounds_toArray, List.set_cons_zero, List.set_cons_succ]))
      refine (CM.out _ (HKW.out _ bel_4)).mono ?_
      rintro e y5 ⟨rfl, hB⟩
      have A_6 : Row y5 A 60 (clc a L) := A_4.old hB
      have B_6 : Row y5 B 60 (clc b M) := rrv2.old hB
      have bel_6 : Below w.heap.size w y5 := below_step bel_4 bel_4.size hB
      clear A_4 rrv2 bel_4 hB
      go_wp2_with (first
        | ((with_reducible refine at_slot 26 ?_); (refine arm_load (o := ⟨some 26, _, _, _, _, _⟩) rfl _ _ rfl A 0 rfl (acs a) ((c_a a L).range A_6) KA.out ?_); try simp only [Act.put, List.setIfInBounds_toArray, List.set_cons_zero, List.set_cons_succ]))
      refine (CHA.out _ (HKW.out _ bel_6)).mono ?_
      rintro e y7 ⟨rfl, hB⟩
      have A_8 : Row y7 A 60 (clc a L) := A_6.old hB
      have B_8 : Row y7 B 60 (clc b M) := B_6.old hB
      have bel_8 : Below w.heap.size w y7 := below_step bel_6 bel_6.size hB
      clear A_6 B_6 bel_6 hB
      go_wp2_with (first
        | ((with_reducible refine at_slot 9 ?_); (refine arm_alloc (o := ⟨some 9, _, _, _, _, _⟩) rfl _ rfl (u8s zh) zH ?_); intro D v9a De hDa nD; try simp only [Act.put, List.setIfInBounds_toArray, List.set_cons_zero, List.set_cons_succ])
        | ((with_reducible refine arm_store (o := ⟨none, _, _, _, _, _⟩) rfl _ _ _ rfl D 0 rfl (u8s da) rfl _ _ hDa (fitH KD.out) (u8s_one _) (szH KD.out) ?_); intro v9 hDb oD sD; try simp only [Act.put, List.setIfInBounds_toArray, List.set_cons_zero, List.set_cons_succ])
        | ((with_reducible refine at_slot 32 ?_); (refine arm_load (o := ⟨some 32, _, _, _, _, _⟩) rfl _ _ rfl B 0 rfl (acs b) ((c_a b M).range ((B_8.old nD.below).only oD (by have := De.out; have := B_8.lt; omega))) KB.out ?_); try simp only [Act.put, List.setIfInBounds_toArray, List.set_cons_zero, List.set_cons_succ]))
      have lD : y7.heap.size ≤ D := by have := De.out; omega
      have bD : Below y7.heap.size y7 v9 := below_only nD.below oD lD nD.below.size
      have rrD : Row v9 D 23 (u8s da) := hDb.congr (allH KD.out)
      have geD : w.heap.size ≤ D := Nat.le_trans bel_8.size lD
      clear hDa hDb nD oD sD De lD
      have A_10 : Row v9 A 60 (clc a L) := A_8.old bD
      have B_10 : Row v9 B 60 (clc b M) := B_8.old bD
      have bel_10 : Below w.heap.size w v9 := below_step bel_8 bel_8.size bD
      clear A_8 B_8 bel_8 bD
      refine (CHB.out _ (HKW.out _ bel_10)).mono ?_
      rintro e y11 ⟨rfl, hB⟩
      have A_12 : Row y11 A 60 (clc a L) := A_10.old hB
      have B_12 : Row y11 B 60 (clc b M) := B_10.old hB
      have D_12 : Row y11 D 23 (u8s da) := rrD.old hB
      have bel_12 : Below w.heap.size w y11 := below_step bel_10 bel_10.size hB
      clear A_10 B_10 rrD bel_10 hB
      go_wp2_with (first
        | ((with_reducible refine at_slot 11 ?_); (refine arm_alloc (o := ⟨some 11, _, _, _, _, _⟩) rfl _ rfl (u8s zh) zH ?_); intro E v13a Ee hEa nE; try simp only [Act.put, List.setIfInBounds_toArray, List.set_cons_zero, List.set_cons_succ])
        | ((with_reducible refine arm_store (o := ⟨none, _, _, _, _, _⟩) rfl _ _ _ rfl E 0 rfl (u8s db) rfl _ _ hEa (fitH KE.out) (u8s_one _) (szH KE.out) ?_); intro v13 hEb oE sE; try simp only [Act.put, List.setIfInBounds_toArray, List.set_cons_zero, List.set_cons_succ])
        | ((with_reducible refine at_slot 36 ?_); (refine arm_load (o := ⟨some 36, _, _, _, _, _⟩) rfl _ _ rfl D 0 rfl (u8s da) ((Has.refl _).range ((D_12.old nE.below).only oE (by have := Ee.out; have := D_12.lt; omega))) (szH KD.out) ?_); try simp only [Act.put, List.setIfInBounds_toArray, List.set_cons_zero, List.set_cons_succ])
        | ((with_reducible refine at_slot 37 ?_); (refine arm_load (o := ⟨some 37, _, _, _, _, _⟩) rfl _ _ rfl E 0 rfl (u8s db) ((Has.refl _).range (hEb.congr (allH KE.out))) (szH KE.out) ?_); try simp only [Act.put, List.setIfInBounds_toArray, List.set_cons_zero, List.set_cons_succ])
        | ((with_reducible refine at_slot 38 ?_); (refine arm_want (.bool true) 38 rfl (by kernel_rfl) (run_op_eqlD KD.out KE.out _ _ _ rfl rfl rfl true (iff_of_true rfl HE.out) _) ?_); try simp only [Act.put, List.setIfInBounds_toArray, List.set_cons_zero, List.set_cons_succ]))
      have lE : y11.heap.size ≤ E := by have := Ee.out; omega
      have bE : Below y11.heap.size y11 v13 := below_only nE.below oE lE nE.below.size
      have rrE : Row v13 E 23 (u8s db) := hEb.congr (allH KE.out)
      have geE : w.heap.size ≤ E := Nat.le_trans bel_12.size lE
      have neDE : D ≠ E := by have := D_12.lt; omega
      clear hEa hEb nE oE sE Ee lE
      have A_14 : Row v13 A 60 (clc a L) := A_12.old bE
      have B_14 : Row v13 B 60 (clc b M) := B_12.old bE
      have D_14 : Row v13 D 23 (u8s da) := D_12.old bE
      have bel_14 : Below w.heap.size w v13 := below_step bel_12 bel_12.size bE
      clear A_12 B_12 D_12 bel_12 bE
      refine wp_region_held (S := fun w' => Row w' A 60 (clc a L) ∧ Row w' B 60 (clc b M) ∧ True) (by kernel_rfl) ?_
      change wpAnyH _ _ _ _ _ _ _ _ v13.drew
      have hd15 : Below v13.heap.size v13 v13.drew := (Below.refl _ _).drew
      have A_16 : Row v13.drew A 60 (clc a L) := A_14.old hd15
      have B_16 : Row v13.drew B 60 (clc b M) := B_14.old hd15
      have D_16 : Row v13.drew D 23 (u8s da) := D_14.old hd15
      have E_16 : Row v13.drew E 23 (u8s db) := rrE.old hd15
      have bel_16 : Below w.heap.size w v13.drew := below_step bel_14 bel_14.size hd15
      clear A_14 B_14 D_14 rrE bel_14 hd15
      generalize v13.drew = yz15 at A_16 B_16 D_16 E_16 bel_16 ⊢
      refine h_take 0 (.pointer (some ⟨A, 0, none⟩)) rfl 39 rfl (by kernel_rfl) (by kernel_rfl) (by kernel_rfl) (by kernel_rfl) (fun _ _ _ h => h) (fun w' _ => by kernel_rfl) ⟨A_16, B_16, trivial⟩ ?_
      simp only [Act.put, List.setIfInBounds_toArray, List.set_cons_zero, List.set_cons_succ]
      refine h_take 1 (.agg (acs a).toArray) rfl 40 rfl (by kernel_rfl) (by kernel_rfl) (by kernel_rfl) (by kernel_rfl) (fun _ _ _ h => h) (fun w' hw => run_op_load _ _ rfl A (0) rfl (acs a) (((c_a a L)).range hw.1) (KA.out)) ⟨A_16, B_16, trivial⟩ ?_
      simp only [Act.put, List.setIfInBounds_toArray, List.set_cons_zero, List.set_cons_succ]
      refine h_take 3 (.pointer (some ⟨B, 0, none⟩)) rfl 42 rfl (by kernel_rfl) (by kernel_rfl) (by kernel_rfl) (by kernel_rfl) (fun _ _ _ h => h) (fun w' _ => by kernel_rfl) ⟨A_16, B_16, trivial⟩ ?_
      simp only [Act.put, List.setIfInBounds_toArray, List.set_cons_zero, List.set_cons_succ]
      refine h_take 4 (.agg (acs b).toArray) rfl 43 rfl (by kernel_rfl) (by kernel_rfl) (by kernel_rfl) (by kernel_rfl) (fun _ _ _ h => h) (fun w' hw => run_op_load _ _ rfl B (0) rfl (acs b) (((c_a b M)).range hw.2.1) (KB.out)) ⟨A_16, B_16, trivial⟩ ?_
      simp only [Act.put, List.setIfInBounds_toArray, List.set_cons_zero, List.set_cons_succ]
      refine h_one (i := 2) (by kernel_rfl) (o_call rfl 41 rfl (by kernel_rfl) (run_op_call 39 _ _ rfl #[.agg (acs a).toArray] (by simp only [List.map_toArray, List.map_cons, List.map_nil]; rfl) Tryd.func39 (by kernel_rfl) (by kernel_rfl) _) (CIA.out _) ?_)
      rintro e y17 ⟨⟨q1, c1, rfl, hC1⟩, hB⟩
      have A_18 : Row y17 A 60 (clc a L) := A_16.old hB
      have B_18 : Row y17 B 60 (clc b M) := B_16.old hB
      have D_18 : Row y17 D 23 (u8s da) := D_16.old hB
      have E_18 : Row y17 E 23 (u8s db) := E_16.old hB
      have bel_18 : Below w.heap.size w y17 := below_step bel_16 bel_16.size hB
      clear A_16 B_16 D_16 E_16 bel_16 hB
      refine ⟨_, rfl, ⟨A_18, B_18, trivial⟩, ?_⟩
      simp only [Act.put, List.setIfInBounds_toArray, List.set_cons_zero, List.set_cons_succ]
      refine h_one (i := 5) (by kernel_rfl) (o_call rfl 44 rfl (by kernel_rfl) (run_op_call 39 _ _ rfl #[.agg (acs b).toArray] (by simp only [List.map_toArray, List.map_cons, List.map_nil]; rfl) Tryd.func39 (by kernel_rfl) (by kernel_rfl) _) (CIB.out _) ?_)
      rintro e y19 ⟨⟨q2, c2, rfl, hC2⟩, hB⟩
      have A_20 : Row y19 A 60 (clc a L) := A_18.old hB
      have B_20 : Row y19 B 60 (clc b M) := B_18.old hB
      have D_20 : Row y19 D 23 (u8s da) := D_18.old hB
      have E_20 : Row y19 E 23 (u8s db) := E_18.old hB
      have C1_20 : Came y19 q1 c1 (imgA a) := hC1.below hB
      have bel_20 : Below w.heap.size w y19 := below_step bel_18 bel_18.size hB
      clear A_18 B_18 D_18 E_18 hC1 bel_18 hB
      refine ⟨_, rfl, ⟨A_20, B_20, trivial⟩, ?_⟩
      simp only [Act.put, List.setIfInBounds_toArray, List.set_cons_zero, List.set_cons_succ]
      refine h_take 6 (.slice q1 (imgA a).length c1) rfl 6 rfl (by kernel_rfl) (by kernel_rfl) (by kernel_rfl) (by kernel_rfl) (fun _ _ _ h => h) (fun w' _ => by kernel_rfl) ⟨A_20, B_20, trivial⟩ ?_
      simp only [Act.put, List.setIfInBounds_toArray, List.set_cons_zero, List.set_cons_succ]
      refine h_take 7 (.slice q2 (imgA b).length c2) rfl 7 rfl (by kernel_rfl) (by kernel_rfl) (by kernel_rfl) (by kernel_rfl) (fun _ _ _ h => h) (fun w' _ => by kernel_rfl) ⟨A_20, B_20, trivial⟩ ?_
      simp only [Act.put, List.setIfInBounds_toArray, List.set_cons_zero, List.set_cons_succ]
      refine h_take 8 (.bool true) rfl 8 rfl (by kernel_rfl) (by kernel_rfl) (by kernel_rfl) (by kernel_rfl) (fun _ _ _ h => h) (fun w' _ => by kernel_rfl) ⟨A_20, B_20, trivial⟩ ?_
      simp only [Act.put, List.setIfInBounds_toArray, List.set_cons_zero, List.set_cons_succ]
      refine wpAnyH_done (by kernel_rfl) ?_ _
      go_wp2_with fail
      refine bodyPost_ret (res_three rfl _ _ _) rfl ?_
      refine ⟨fun h => absurd (HM.out.symm.trans h) (Bool.false_ne_true ∘ Eq.symm), fun _ => ⟨0, q1, c1, q2, c2, by omega, ?_, fun j hj => by omega, rfl, C1_20, hC2⟩, bel_20⟩
      show digA a = digA b
      rw [← HDA.out, ← HDB.out, HE.out]
    · have HE := Lib.hid he
      clear he
      go_enter Tryd.func24, Tryd.ntmps24
      go_wp2_with (first
        | ((with_reducible refine at_slot 4 ?_); (refine arm_box (o := ⟨some 4, _, _, _, _, _⟩) rfl _ _ rfl (clc a L) rfl ?_); intro A v1 Ae hv1 nv1; try simp only [Act.put, List.setIfInBounds_toArray, List.set_cons_zero, List.set_cons_succ])
        | ((with_reducible refine at_slot 5 ?_); (refine arm_box (o := ⟨some 5, _, _, _, _, _⟩) rfl _ _ rfl (clc b M) rfl ?_); intro B v2 Be hv2 nv2; try simp only [Act.put, List.setIfInBounds_toArray, List.set_cons_zero, List.set_cons_succ])
        | ((with_reducible refine at_slot 20 ?_); (refine pause ?_); try simp only [Act.put, List.setIfInBounds_toArray, List.set_cons_zero, List.set_cons_succ]))
      have hbv1 := nv1.below
      have rrv1 : Row v1 A 60 (clc a L) := hv1
      have hbv2 := nv2.below
      have rrv2 : Row v2 B 60 (clc b M) := hv2
      have geA : w.heap.size ≤ A := by have := Ae.out; omega
      clear hv1 nv1 Ae
      have bel_3 : Below w.heap.size w v1 := hbv1
      clear hbv1
      have geB : w.heap.size ≤ B := by have := Be.out; have := bel_3.size; omega
      have ltAB : A < B := by have := Be.out; have := rrv1.lt; omega
      clear hv2 nv2 Be
      have A_4 : Row v2 A 60 (clc a L) := rrv1.old hbv2
      have bel_4 : Below w.heap.size w v2 := below_step bel_3 bel_3.size hbv2
      clear rrv1 bel_3 hbv2
      refine go_on ?_
      go_wp2_with (first
        | ((with_reducible refine at_slot 20 ?_); (refine arm_load (o := ⟨some 20, _, _, _, _, _⟩) rfl _ _ rfl A 0 rfl (clc a L) ((Has.refl _).range A_4) SA.out ?_); try simp only [Act.put, List.setIfInBounds_toArray, List.set_cons_zero, List.set_cons_succ])
        | ((with_reducible refine at_slot 21 ?_); (refine arm_load (o := ⟨some 21, _, _, _, _, _⟩) rfl _ _ rfl B 0 rfl (clc b M) ((Has.refl _).range rrv2) SB.out ?_); try simp only [Act.put, List.setIfInBounds_toArray, List.set_cons_zero, List.set_cons_succ]))
      refine (CM.out _ (HKW.out _ bel_4)).mono ?_
      rintro e y5 ⟨rfl, hB⟩
      have A_6 : Row y5 A 60 (clc a L) := A_4.old hB
      have B_6 : Row y5 B 60 (clc b M) := rrv2.old hB
      have bel_6 : Below w.heap.size w y5 := below_step bel_4 bel_4.size hB
      clear A_4 rrv2 bel_4 hB
      go_wp2_with (first
        | ((with_reducible refine at_slot 26 ?_); (refine arm_load (o := ⟨some 26, _, _, _, _, _⟩) rfl _ _ rfl A 0 rfl (acs a) ((c_a a L).range A_6) KA.out ?_); try simp only [Act.put, List.setIfInBounds_toArray, List.set_cons_zero, List.set_cons_succ]))
      refine (CHA.out _ (HKW.out _ bel_6)).mono ?_
      rintro e y7 ⟨rfl, hB⟩
      have A_8 : Row y7 A 60 (clc a L) := A_6.old hB
      have B_8 : Row y7 B 60 (clc b M) := B_6.old hB
      have bel_8 : Below w.heap.size w y7 := below_step bel_6 bel_6.size hB
      clear A_6 B_6 bel_6 hB
      go_wp2_with (first
        | ((with_reducible refine at_slot 9 ?_); (refine arm_alloc (o := ⟨some 9, _, _, _, _, _⟩) rfl _ rfl (u8s zh) zH ?_); intro D v9a De hDa nD; try simp only [Act.put, List.setIfInBounds_toArray, List.set_cons_zero, List.set_cons_succ])
        | ((with_reducible refine arm_store (o := ⟨none, _, _, _, _, _⟩) rfl _ _ _ rfl D 0 rfl (u8s da) rfl _ _ hDa (fitH KD.out) (u8s_one _) (szH KD.out) ?_); intro v9 hDb oD sD; try simp only [Act.put, List.setIfInBounds_toArray, List.set_cons_zero, List.set_cons_succ])
        | ((with_reducible refine at_slot 32 ?_); (refine arm_load (o := ⟨some 32, _, _, _, _, _⟩) rfl _ _ rfl B 0 rfl (acs b) ((c_a b M).range ((B_8.old nD.below).only oD (by have := De.out; have := B_8.lt; omega))) KB.out ?_); try simp only [Act.put, List.setIfInBounds_toArray, List.set_cons_zero, List.set_cons_succ]))
      have lD : y7.heap.size ≤ D := by have := De.out; omega
      have bD : Below y7.heap.size y7 v9 := below_only nD.below oD lD nD.below.size
      have rrD : Row v9 D 23 (u8s da) := hDb.congr (allH KD.out)
      have geD : w.heap.size ≤ D := Nat.le_trans bel_8.size lD
      clear hDa hDb nD oD sD De lD
      have A_10 : Row v9 A 60 (clc a L) := A_8.old bD
      have B_10 : Row v9 B 60 (clc b M) := B_8.old bD
      have bel_10 : Below w.heap.size w v9 := below_step bel_8 bel_8.size bD
      clear A_8 B_8 bel_8 bD
      refine (CHB.out _ (HKW.out _ bel_10)).mono ?_
      rintro e y11 ⟨rfl, hB⟩
      have A_12 : Row y11 A 60 (clc a L) := A_10.old hB
      have B_12 : Row y11 B 60 (clc b M) := B_10.old hB
      have D_12 : Row y11 D 23 (u8s da) := rrD.old hB
      have bel_12 : Below w.heap.size w y11 := below_step bel_10 bel_10.size hB
      clear A_10 B_10 rrD bel_10 hB
      go_wp2_with (first
        | ((with_reducible refine at_slot 11 ?_); (refine arm_alloc (o := ⟨some 11, _, _, _, _, _⟩) rfl _ rfl (u8s zh) zH ?_); intro E v13a Ee hEa nE; try simp only [Act.put, List.setIfInBounds_toArray, List.set_cons_zero, List.set_cons_succ])
        | ((with_reducible refine arm_store (o := ⟨none, _, _, _, _, _⟩) rfl _ _ _ rfl E 0 rfl (u8s db) rfl _ _ hEa (fitH KE.out) (u8s_one _) (szH KE.out) ?_); intro v13 hEb oE sE; try simp only [Act.put, List.setIfInBounds_toArray, List.set_cons_zero, List.set_cons_succ])
        | ((with_reducible refine at_slot 36 ?_); (refine arm_load (o := ⟨some 36, _, _, _, _, _⟩) rfl _ _ rfl D 0 rfl (u8s da) ((Has.refl _).range ((D_12.old nE.below).only oE (by have := Ee.out; have := D_12.lt; omega))) (szH KD.out) ?_); try simp only [Act.put, List.setIfInBounds_toArray, List.set_cons_zero, List.set_cons_succ])
        | ((with_reducible refine at_slot 37 ?_); (refine arm_load (o := ⟨some 37, _, _, _, _, _⟩) rfl _ _ rfl E 0 rfl (u8s db) ((Has.refl _).range (hEb.congr (allH KE.out))) (szH KE.out) ?_); try simp only [Act.put, List.setIfInBounds_toArray, List.set_cons_zero, List.set_cons_succ])
        | ((with_reducible refine at_slot 38 ?_); (refine arm_want (.bool false) 38 rfl (by kernel_rfl) (run_op_eqlD KD.out KE.out _ _ _ rfl rfl rfl false (iff_of_false Bool.false_ne_true HE.out) _) ?_); try simp only [Act.put, List.setIfInBounds_toArray, List.set_cons_zero, List.set_cons_succ])
        | ((with_reducible refine at_slot 13 ?_); (refine pause ?_); try simp only [Act.put, List.setIfInBounds_toArray, List.set_cons_zero, List.set_cons_succ]))
      have lE : y11.heap.size ≤ E := by have := Ee.out; omega
      have bE : Below y11.heap.size y11 v13 := below_only nE.below oE lE nE.below.size
      have rrE : Row v13 E 23 (u8s db) := hEb.congr (allH KE.out)
      have geE : w.heap.size ≤ E := Nat.le_trans bel_12.size lE
      have neDE : D ≠ E := by have := D_12.lt; omega
      clear hEa hEb nE oE sE Ee lE
      have A_14 : Row v13 A 60 (clc a L) := A_12.old bE
      have B_14 : Row v13 B 60 (clc b M) := B_12.old bE
      have D_14 : Row v13 D 23 (u8s da) := D_12.old bE
      have bel_14 : Below w.heap.size w v13 := below_step bel_12 bel_12.size bE
      clear A_12 B_12 D_12 bel_12 bE
      refine go_on ?_
      have lA := A_14.lt; have lB := B_14.lt
      go_wp2_with (first
        | ((with_reducible refine at_slot 13 ?_); (refine arm_alloc (o := ⟨some 13, _, _, _, _, _⟩) rfl _ rfl (zn) z_node ?_); intro X v15 Xe hv15 nv15; try simp only [Act.put, List.setIfInBounds_toArray, List.set_cons_zero, List.set_cons_succ])
        | ((with_reducible refine at_slot 14 ?_); (refine arm_alloc (o := ⟨some 14, _, _, _, _, _⟩) rfl _ rfl (zn) z_node ?_); intro Y v16 Ye hv16 nv16; try simp only [Act.put, List.setIfInBounds_toArray, List.set_cons_zero, List.set_cons_succ]))
      have hbv15 := nv15.below
      have rrv15 : Row v15 X 74 (zn) := hv15
      have hbv16 := nv16.below
      have rrv16 : Row v16 Y 74 (zn) := hv16
      have geX : w.heap.size ≤ X := by have := Xe.out; have := bel_14.size; omega
      have ltBX : B < X := by have := Xe.out; have := bel_14.size; omega
      clear hv15 nv15 Xe
      have A_17 : Row v15 A 60 (clc a L) := A_14.old hbv15
      have B_17 : Row v15 B 60 (clc b M) := B_14.old hbv15
      have D_17 : Row v15 D 23 (u8s da) := D_14.old hbv15
      have E_17 : Row v15 E 23 (u8s db) := rrE.old hbv15
      have bel_17 : Below w.heap.size w v15 := below_step bel_14 bel_14.size hbv15
      clear A_14 B_14 D_14 rrE bel_14 hbv15
      have geY : w.heap.size ≤ Y := by have := Ye.out; have := bel_17.size; omega
      have ltXY : X < Y := by have := Ye.out; have := rrv15.lt; omega
      have ltBY : B < Y := by have := Ye.out; have := bel_17.size; omega
      clear hv16 nv16 Ye
      have A_18 : Row v16 A 60 (clc a L) := A_17.old hbv16
      have B_18 : Row v16 B 60 (clc b M) := B_17.old hbv16
      have D_18 : Row v16 D 23 (u8s da) := D_17.old hbv16
      have E_18 : Row v16 E 23 (u8s db) := E_17.old hbv16
      have X_18 : Row v16 X 74 (zn) := rrv15.old hbv16
      have bel_18 : Below w.heap.size w v16 := below_step bel_17 bel_17.size hbv16
      clear A_17 B_17 D_17 E_17 rrv15 bel_17 hbv16
      clear lA lB
      have CC1 := Lib.hid (fun w0 => climb_any q da w0 KD.out)
      have CC2 := Lib.hid (fun w0 => climb_any q db w0 KE.out)
      refine wp_region_held (S := fun w' => Row w' D 23 (u8s da) ∧ Row w' E 23 (u8s db) ∧ True) (by kernel_rfl) ?_
      change wpAnyH _ _ _ _ _ _ _ _ v16.drew
      have hd19 : Below v16.heap.size v16 v16.drew := (Below.refl _ _).drew
      have A_20 : Row v16.drew A 60 (clc a L) := A_18.old hd19
      have B_20 : Row v16.drew B 60 (clc b M) := B_18.old hd19
      have D_20 : Row v16.drew D 23 (u8s da) := D_18.old hd19
      have E_20 : Row v16.drew E 23 (u8s db) := E_18.old hd19
      have X_20 : Row v16.drew X 74 (zn) := X_18.old hd19
      have Y_20 : Row v16.drew Y 74 (zn) := rrv16.old hd19
      have bel_20 : Below w.heap.size w v16.drew := below_step bel_18 bel_18.size hd19
      clear A_18 B_18 D_18 E_18 X_18 rrv16 bel_18 hd19
      generalize v16.drew = yz19 at A_20 B_20 D_20 E_20 X_20 Y_20 bel_20 ⊢
      refine h_take 0 (.int .i64 (q : Int)) rfl 45 rfl (by kernel_rfl) (by kernel_rfl) (by kernel_rfl) (by kernel_rfl) (fun _ _ _ h => h) (fun w' _ => by kernel_rfl) ⟨D_20, E_20, trivial⟩ ?_
      simp only [Act.put, List.setIfInBounds_toArray, List.set_cons_zero, List.set_cons_succ]
      refine h_take 1 (.agg (u8s da).toArray) rfl 46 rfl (by kernel_rfl) (by kernel_rfl) (by kernel_rfl) (by kernel_rfl) (fun _ _ _ h => h) (fun w' hw => run_op_load _ _ rfl D (0) rfl (u8s da) (((Has.refl _)).range hw.1) ((szH KD.out))) ⟨D_20, E_20, trivial⟩ ?_
      simp only [Act.put, List.setIfInBounds_toArray, List.set_cons_zero, List.set_cons_succ]
      refine h_take 3 (.int .i64 (q : Int)) rfl 48 rfl (by kernel_rfl) (by kernel_rfl) (by kernel_rfl) (by kernel_rfl) (fun _ _ _ h => h) (fun w' _ => by kernel_rfl) ⟨D_20, E_20, trivial⟩ ?_
      simp only [Act.put, List.setIfInBounds_toArray, List.set_cons_zero, List.set_cons_succ]
      refine h_take 4 (.agg (u8s db).toArray) rfl 49 rfl (by kernel_rfl) (by kernel_rfl) (by kernel_rfl) (by kernel_rfl) (fun _ _ _ h => h) (fun w' hw => run_op_load _ _ rfl E (0) rfl (u8s db) (((Has.refl _)).range hw.2.1) ((szH KE.out))) ⟨D_20, E_20, trivial⟩ ?_
      simp only [Act.put, List.setIfInBounds_toArray, List.set_cons_zero, List.set_cons_succ]
      have lY := Y_20.lt; have wz := bel_20.size
      refine h_one (i := 2) (by kernel_rfl) (o_call rfl 47 rfl (by kernel_rfl) (run_op_call 29 _ _ rfl #[.int .i64 (q : Int), .agg (u8s da).toArray] (by simp only [List.map_toArray, List.map_cons, List.map_nil]; rfl) Tryd.func29 (by kernel_rfl) (by kernel_rfl) _) (CC1.out _) ?_)
      rintro e y21 ⟨⟨K1, S1, P1, rfl, hU1, gP1⟩, hB⟩
      have A_22 : Row y21 A 60 (clc a L) := A_20.old hB
      have B_22 : Row y21 B 60 (clc b M) := B_20.old hB
      have D_22 : Row y21 D 23 (u8s da) := D_20.old hB
      have E_22 : Row y21 E 23 (u8s db) := E_20.old hB
      have X_22 : Row y21 X 74 (zn) := X_20.old hB
      have Y_22 : Row y21 Y 74 (zn) := Y_20.old hB
      have bel_22 : Below w.heap.size w y21 := below_step bel_20 bel_20.size hB
      clear A_20 B_20 D_20 E_20 X_20 Y_20 bel_20 hB
      refine ⟨_, rfl, ⟨D_22, E_22, trivial⟩, ?_⟩
      simp only [Act.put, List.setIfInBounds_toArray, List.set_cons_zero, List.set_cons_succ]
      have ps1 := hU1.ps; have sh1 := hU1.sh
      have lYP : Y < P1 := by omega
      have gK1 : w.heap.size ≤ K1 := by omega
      have gS1 : w.heap.size ≤ S1 := by omega
      clear lY wz gP1
      have lK := hU1.lt; have wz := bel_22.size
      refine h_one (i := 5) (by kernel_rfl) (o_call rfl 50 rfl (by kernel_rfl) (run_op_call 29 _ _ rfl #[.int .i64 (q : Int), .agg (u8s db).toArray] (by simp only [List.map_toArray, List.map_cons, List.map_nil]; rfl) Tryd.func29 (by kernel_rfl) (by kernel_rfl) _) (CC2.out _) ?_)
      rintro e y23 ⟨⟨K2, S2, P2, rfl, hU2, gP2⟩, hB⟩
      have A_24 : Row y23 A 60 (clc a L) := A_22.old hB
      have B_24 : Row y23 B 60 (clc b M) := B_22.old hB
      have D_24 : Row y23 D 23 (u8s da) := D_22.old hB
      have E_24 : Row y23 E 23 (u8s db) := E_22.old hB
      have X_24 : Row y23 X 74 (zn) := X_22.old hB
      have Y_24 : Row y23 Y 74 (zn) := Y_22.old hB
      have U1_24 : UpAt y23 K1 S1 P1 q (0) (da) := hU1.old hB
      have bel_24 : Below w.heap.size w y23 := below_step bel_22 bel_22.size hB
      clear A_22 B_22 D_22 E_22 X_22 Y_22 hU1 bel_22 hB
      refine ⟨_, rfl, ⟨D_24, E_24, trivial⟩, ?_⟩
      simp only [Act.put, List.setIfInBounds_toArray, List.set_cons_zero, List.set_cons_succ]
      have ps2 := hU2.ps; have sh2 := hU2.sh
      have lKP : K1 < P2 := by omega
      have gK2 : w.heap.size ≤ K2 := by omega
      have gS2 : w.heap.size ≤ S2 := by omega
      clear lK wz gP2
      refine h_take 6 (upV K1 S1 P1) rfl 15 rfl (by kernel_rfl) (by kernel_rfl) (by kernel_rfl) (by kernel_rfl) (fun _ _ _ h => h) (fun w' _ => by kernel_rfl) ⟨D_24, E_24, trivial⟩ ?_
      simp only [Act.put, List.setIfInBounds_toArray, List.set_cons_zero, List.set_cons_succ]
      refine h_take 7 (upV K2 S2 P2) rfl 16 rfl (by kernel_rfl) (by kernel_rfl) (by kernel_rfl) (by kernel_rfl) (fun _ _ _ h => h) (fun w' _ => by kernel_rfl) ⟨D_24, E_24, trivial⟩ ?_
      simp only [Act.put, List.setIfInBounds_toArray, List.set_cons_zero, List.set_cons_succ]
      refine wpAnyH_done (by kernel_rfl) ?_ _
      go_wp2_with (first
        | ((with_reducible refine at_slot 52 ?_); (refine arm_load (o := ⟨some 52, _, _, _, _, _⟩) rfl _ _ rfl A 3 rfl (dgC L) ((c_p a L).range A_24) SPL.out ?_); try simp only [Act.put, List.setIfInBounds_toArray, List.set_cons_zero, List.set_cons_succ]))
      try simp only [Act.put]
      have h0 : ClRel w B X Y K1 S1 P1 K2 S2 P2 q L M a b (.int .i64 0) y23 := ⟨⟨0, by omega, rfl, by rw [HDA.out] at U1_24; exact U1_24, by rw [HDB.out] at hU2; exact hU2, X_24, Y_24, fun j hj => by
        obtain rfl : j = 0 := by omega
        show ¬ digA a = digA b
        rw [← HDA.out, ← HDB.out]
        exact HE.out⟩, B_24, bel_24⟩
      clear A_24 B_24 D_24 E_24 X_24 Y_24 U1_24 hU2 bel_24 CC1 CC2 CHA CHB CIA CIB
      go_loopw [53] (fun i wr => ClRel w B X Y K1 S1 P1 K2 S2 P2 q L M a b i wr) (fun i _ => 4 - (intOf i).toNat)
      case atStart => exact h0
      case round =>
        clear h0
        obtain ⟨⟨k, hk, rfl, hU1, hU2, hX, hY, hne⟩, hB, bel⟩ := hrel
        have HNE := Lib.hid hne
        have HLEAD2 : Hid (leadK q L (digA a) 4 = leadK q M (digA b) 4) := Lib.hid (by rw [← HDA.out, ← HDB.out]; exact HLEAD.out)
        by_cases hlt : k < 4
        · have ik : (k : Int) < 4 := by omega
          have HLT := Lib.hid hlt
          obtain ⟨e1, he1⟩ : ∃ x, x = leadK q L (digA a) k := ⟨_, rfl⟩
          obtain ⟨x1, hx1⟩ : ∃ x, x = L.getD k [] := ⟨_, rfl⟩
          obtain ⟨l1, hl1⟩ : ∃ x, x = lft q k e1 x1 := ⟨_, rfl⟩
          obtain ⟨r1, hr1⟩ : ∃ x, x = rgt q k e1 x1 := ⟨_, rfl⟩
          obtain ⟨n1, hn1⟩ : ∃ x, x = leadK q L (digA a) (k + 1) := ⟨_, rfl⟩
          have HNN1 : Hid (nxt q k e1 x1 = n1) := Lib.hid (by rw [he1, hx1, hn1]; exact nxt_lead q k L (digA a))
          have KE1 : Hid (H32 e1) := Lib.hid (by rw [he1]; exact lead_ok (digA_ok a) k)
          have KX1 : Hid (H32 x1) := Lib.hid (by rw [hx1]; exact H4.out.at hlt)
          have KL1 : Hid (H32 l1) := Lib.hid (by rw [hl1]; exact lft_ok KE1.out KX1.out)
          have KR1 : Hid (H32 r1) := Lib.hid (by rw [hr1]; exact rgt_ok KE1.out KX1.out)
          have KN1 : Hid (H32 n1) := Lib.hid (by rw [hn1]; exact lead_ok (digA_ok a) (k + 1))
          have CU1 : Hid (∀ w0, UpAt w0 K1 S1 P1 q k e1 → w0.rangeAt 1 0 (u32s ks) → Calls Tryd.prog 47 #[.agg (u8s x1).toArray, .pointer (some ⟨K1, 0, none⟩), .pointer (some ⟨S1, 0, none⟩), .pointer (some ⟨P1, 0, none⟩)] w0 fun e w' => e = .returned (.agg (ncs (k + 1) l1 r1 n1).toArray) ∧ UpAt w' K1 S1 P1 q (k + 1) n1 ∧ Two K1 S1 w0 w') := Lib.hid fun w0 h0 h1 => (up_any K1 S1 P1 q k e1 x1 w0 HQ.out hlt KE1.out KX1.out h0 h1).mono fun e w' h => ⟨by rw [h.ret, HNN1.out, ← hl1, ← hr1], by rw [← HNN1.out]; exact h.up, h.two⟩
          have HND1 : Hid (nodC q L (digA a) (k + 1) = ncs (k + 1) l1 r1 n1) := Lib.hid (by rw [hl1, hr1, hn1, he1, hx1]; rfl)
          have CI1 : Hid (∀ w0, Calls Tryd.prog 40 #[.agg (ncs (k + 1) l1 r1 n1).toArray] w0 (CmPost w0 (imgK q L a (k + 1)))) := Lib.hid fun w0 => by
            have h := nimg_any (k + 1) l1 r1 n1 w0 (by omega) KL1.out KR1.out KN1.out
            rw [hl1, hr1, he1, hx1, ← imgK_succ] at h
            rw [hl1, hr1, he1, hx1]
            exact h
          have HN1 := Lib.hid hn1
          rw [← he1] at hU1
          have HLC1 : Hid ((nodC q L (digA a) k).length = 97) := Lib.hid (nodC_len H4.out (digA_ok a) k (by omega))
          obtain ⟨e2, he2⟩ : ∃ x, x = leadK q M (digA b) k := ⟨_, rfl⟩
          obtain ⟨x2, hx2⟩ : ∃ x, x = M.getD k [] := ⟨_, rfl⟩
          obtain ⟨l2, hl2⟩ : ∃ x, x = lft q k e2 x2 := ⟨_, rfl⟩
          obtain ⟨r2, hr2⟩ : ∃ x, x = rgt q k e2 x2 := ⟨_, rfl⟩
          obtain ⟨n2, hn2⟩ : ∃ x, x = leadK q M (digA b) (k + 1) := ⟨_, rfl⟩
          have HNN2 : Hid (nxt q k e2 x2 = n2) := Lib.hid (by rw [he2, hx2, hn2]; exact nxt_lead q k M (digA b))
          have KE2 : Hid (H32 e2) := Lib.hid (by rw [he2]; exact lead_ok (digA_ok b) k)
          have KX2 : Hid (H32 x2) := Lib.hid (by rw [hx2]; exact G4.out.at hlt)
          have KL2 : Hid (H32 l2) := Lib.hid (by rw [hl2]; exact lft_ok KE2.out KX2.out)
          have KR2 : Hid (H32 r2) := Lib.hid (by rw [hr2]; exact rgt_ok KE2.out KX2.out)
          have KN2 : Hid (H32 n2) := Lib.hid (by rw [hn2]; exact lead_ok (digA_ok b) (k + 1))
          have CU2 : Hid (∀ w0, UpAt w0 K2 S2 P2 q k e2 → w0.rangeAt 1 0 (u32s ks) → Calls Tryd.prog 47 #[.agg (u8s x2).toArray, .pointer (some ⟨K2, 0, none⟩), .pointer (some ⟨S2, 0, none⟩), .pointer (some ⟨P2, 0, none⟩)] w0 fun e w' => e = .returned (.agg (ncs (k + 1) l2 r2 n2).toArray) ∧ UpAt w' K2 S2 P2 q (k + 1) n2 ∧ Two K2 S2 w0 w') := Lib.hid fun w0 h0 h1 => (up_any K2 S2 P2 q k e2 x2 w0 HQ.out hlt KE2.out KX2.out h0 h1).mono fun e w' h => ⟨by rw [h.ret, HNN2.out, ← hl2, ← hr2], by rw [← HNN2.out]; exact h.up, h.two⟩
          have HND2 : Hid (nodC q M (digA b) (k + 1) = ncs (k + 1) l2 r2 n2) := Lib.hid (by rw [hl2, hr2, hn2, he2, hx2]; rfl)
          have CI2 : Hid (∀ w0, Calls Tryd.prog 40 #[.agg (ncs (k + 1) l2 r2 n2).toArray] w0 (CmPost w0 (imgK q M b (k + 1)))) := Lib.hid fun w0 => by
            have h := nimg_any (k + 1) l2 r2 n2 w0 (by omega) KL2.out KR2.out KN2.out
            rw [hl2, hr2, he2, hx2, ← imgK_succ] at h
            rw [hl2, hr2, he2, hx2]
            exact h
          have HN2 := Lib.hid hn2
          rw [← he2] at hU2
          have HLC2 : Hid ((nodC q M (digA b) k).length = 97) := Lib.hid (nodC_len G4.out (digA_ok b) k (by omega))
          obtain ⟨c1, hc1⟩ : ∃ x, x = nodC q L (digA a) k := ⟨_, rfl⟩
          obtain ⟨c2, hc2⟩ : ∃ x, x = nodC q M (digA b) k := ⟨_, rfl⟩
          rw [← hc1] at hX HLC1
          rw [← hc2] at hY HLC2
          have HX1 := Lib.hid hx1; have HX2 := Lib.hid hx2
          have HIX : Hid (∀ (w0 : World) (o : Oper) (f : Act) (x ix : Operand), o.op = .index 29 x ix → f.eval x = .agg (dgC L).toArray → f.eval ix = .int .i64 (k : Int) → (execOp f.eval o).run Tryd.prog w0 = .ok (.value (.agg (u8s x1).toArray)) w0) := Lib.hid fun w0 o f x ix ho h1 h2 => hx1 ▸ run_op_indexP H4.out x ix ho h1 k h2 hlt w0
          have HPB : Hid (Has (clc b M) (3 + 32 * k) (u8s x2)) := Lib.hid (by rw [hx2]; exact c_d b G4.out hlt)
          clear hl1 hr1 hn1 he1 hx1 hl2 hr2 hn2 he2 hx2 hc1 hc2 hne
          have lk1 := hU1.lt; have lk2 := hU2.lt; have lb0 := hB.lt; have lx0 := hX.lt; have ly0 := hY.lt
          go_wp2_with (first
            | ((with_reducible refine at_slot 56 ?_); (refine arm_want (.agg (u8s x1).toArray) 56 rfl (by kernel_rfl) (HIX.out _ _ _ _ _ rfl rfl rfl) ?_); try simp only [Act.put, List.setIfInBounds_toArray, List.set_cons_zero, List.set_cons_succ])
            | ((with_reducible refine at_slot 18 ?_); (refine arm_alloc (o := ⟨some 18, _, _, _, _, _⟩) rfl _ rfl (u8s zh) zH ?_); intro G v201a Ge hGa nG; try simp only [Act.put, List.setIfInBounds_toArray, List.set_cons_zero, List.set_cons_succ])
            | ((with_reducible refine arm_store (o := ⟨none, _, _, _, _, _⟩) rfl _ _ _ rfl G 0 rfl (u8s x1) rfl _ _ hGa (fitH KX1.out) (u8s_one _) (szH KX1.out) ?_); intro v201 hGb oG sG; try simp only [Act.put, List.setIfInBounds_toArray, List.set_cons_zero, List.set_cons_succ]))
          have lG : wr.heap.size ≤ G := by have := Ge.out; omega
          have bG : Below wr.heap.size wr v201 := below_only nG.below oG lG nG.below.size
          have rrG : Row v201 G 23 (u8s x1) := hGb.congr (allH KX1.out)
          have geG : w.heap.size ≤ G := Nat.le_trans bel.size lG
          have ltK1G : K1 < G := by omega
          have ltK2G : K2 < G := by omega
          have ltBG : B < G := by omega
          have ltXG : X < G := by omega
          have ltYG : Y < G := by omega
          clear hGa hGb nG oG sG Ge lG
          have U1_202 : UpAt v201 K1 S1 P1 q (k) (e1) := hU1.old bG
          have U2_202 : UpAt v201 K2 S2 P2 q (k) (e2) := hU2.old bG
          have X_202 : Row v201 X 74 (c1) := hX.old bG
          have Y_202 : Row v201 Y 74 (c2) := hY.old bG
          have B_202 : Row v201 B 60 (clc b M) := hB.old bG
          have bel_202 : Below w.heap.size w v201 := below_step bel bel.size bG
          clear hU1 hU2 hX hY hB bel bG
          clear lk1 lk2 lb0 lx0 ly0
          refine wp_region_held (S := fun w' => Row w' B 60 (clc b M) ∧ Row w' G 23 (u8s x1) ∧ True) (by kernel_rfl) ?_
          change wpAnyH _ _ _ _ _ _ _ _ v201.drew
          have hd203 : Below v201.heap.size v201 v201.drew := (Below.refl _ _).drew
          have U1_204 : UpAt v201.drew K1 S1 P1 q (k) (e1) := U1_202.old hd203
          have U2_204 : UpAt v201.drew K2 S2 P2 q (k) (e2) := U2_202.old hd203
          have X_204 : Row v201.drew X 74 (c1) := X_202.old hd203
          have Y_204 : Row v201.drew Y 74 (c2) := Y_202.old hd203
          have B_204 : Row v201.drew B 60 (clc b M) := B_202.old hd203
          have G_204 : Row v201.drew G 23 (u8s x1) := rrG.old hd203
          have bel_204 : Below w.heap.size w v201.drew := below_step bel_202 bel_202.size hd203
          clear U1_202 U2_202 X_202 Y_202 B_202 rrG bel_202 hd203
          generalize v201.drew = yz203 at U1_204 U2_204 X_204 Y_204 B_204 G_204 bel_204 ⊢
          refine h_take 0 (upV K1 S1 P1) rfl 57 rfl (by kernel_rfl) (by kernel_rfl) (by kernel_rfl) (by kernel_rfl) (fun _ _ _ h => h) (fun w' _ => by kernel_rfl) ⟨B_204, G_204, trivial⟩ ?_
          simp only [Act.put, List.setIfInBounds_toArray, List.set_cons_zero, List.set_cons_succ]
          refine h_take 1 (.agg (u8s x1).toArray) rfl 58 rfl (by kernel_rfl) (by kernel_rfl) (by kernel_rfl) (by kernel_rfl) (fun _ _ _ h => h) (fun w' hw => run_op_load _ _ rfl G (0) rfl (u8s x1) (((Has.refl _)).range hw.2.1) ((szH KX1.out))) ⟨B_204, G_204, trivial⟩ ?_
          simp only [Act.put, List.setIfInBounds_toArray, List.set_cons_zero, List.set_cons_succ]
          refine h_take 3 (upV K2 S2 P2) rfl 60 rfl (by kernel_rfl) (by kernel_rfl) (by kernel_rfl) (by kernel_rfl) (fun _ _ _ h => h) (fun w' _ => by kernel_rfl) ⟨B_204, G_204, trivial⟩ ?_
          simp only [Act.put, List.setIfInBounds_toArray, List.set_cons_zero, List.set_cons_succ]
          refine h_take 4 (.int .i64 (k : Int)) rfl 61 rfl (by kernel_rfl) (by kernel_rfl) (by kernel_rfl) (by kernel_rfl) (fun _ _ _ h => h) (fun w' _ => by kernel_rfl) ⟨B_204, G_204, trivial⟩ ?_
          simp only [Act.put, List.setIfInBounds_toArray, List.set_cons_zero, List.set_cons_succ]
          refine h_take 5 (.pointer (some ⟨B, 3, none⟩)) rfl 62 rfl (by kernel_rfl) (by kernel_rfl) (by kernel_rfl) (by kernel_rfl) (fun _ _ _ h => h) (fun w' _ => by kernel_rfl) ⟨B_204, G_204, trivial⟩ ?_
          simp only [Act.put, List.setIfInBounds_toArray, List.set_cons_zero, List.set_cons_succ]
          refine h_take 6 (.pointer (some ⟨B, 3 + 32 * k, none⟩)) rfl 63 rfl (by kernel_rfl) (by kernel_rfl) (by kernel_rfl) (by kernel_rfl) (fun _ _ _ h => h) (fun w' _ => run_op_arr _ _ _ rfl 4 23 32 (by kernel_rfl) (by kernel_rfl) B 3 rfl .i64 _ rfl k rfl HLT.out (3 + 32 * k) (by omega) w') ⟨B_204, G_204, trivial⟩ ?_
          simp only [Act.put, List.setIfInBounds_toArray, List.set_cons_zero, List.set_cons_succ]
          refine h_take 7 (.agg (u8s x2).toArray) rfl 64 rfl (by kernel_rfl) (by kernel_rfl) (by kernel_rfl) (by kernel_rfl) (fun _ _ _ h => h) (fun w' hw => run_op_load _ _ rfl B (3 + 32 * k) rfl (u8s x2) ((HPB.out).range hw.1) ((szH KX2.out))) ⟨B_204, G_204, trivial⟩ ?_
          simp only [Act.put, List.setIfInBounds_toArray, List.set_cons_zero, List.set_cons_succ]
          refine h_one (i := 2) (by kernel_rfl) (o_call rfl 59 rfl (by kernel_rfl) (run_op_callV 47 _ _ _ rfl #[.pointer (some ⟨K1, 0, none⟩), .pointer (some ⟨S1, 0, none⟩), .pointer (some ⟨P1, 0, none⟩)] rfl #[.agg (u8s x1).toArray] (by simp only [List.map_toArray, List.map_cons, List.map_nil]; rfl) Tryd.func47 (by kernel_rfl) (by kernel_rfl) _) (CU1.out _ U1_204 (HKW.out _ bel_204)) ?_)
          rintro e y205 ⟨rfl, hV1, hT⟩
          have U1_206 : UpAt y205 K1 S1 P1 q (k + 1) n1 := hV1
          have U2_206 : UpAt y205 K2 S2 P2 q (k) (e2) := U2_204.two hT (Or.inl (by omega)) (Or.inl (by omega))
          have X_206 : Row y205 X 74 (c1) := X_204.two hT (by omega) (by omega)
          have Y_206 : Row y205 Y 74 (c2) := Y_204.two hT (by omega) (by omega)
          have B_206 : Row y205 B 60 (clc b M) := B_204.two hT (by omega) (by omega)
          have G_206 : Row y205 G 23 (u8s x1) := G_204.two hT (by omega) (by omega)
          have bel_206 : Below w.heap.size w y205 := Below.two_ bel_204 hT gK1 gS1 bel_204.size
          clear U1_204 U2_204 X_204 Y_204 B_204 G_204 bel_204 hT
          refine ⟨_, rfl, ⟨B_206, G_206, trivial⟩, ?_⟩
          simp only [Act.put, List.setIfInBounds_toArray, List.set_cons_zero, List.set_cons_succ]
          clear hV1
          refine h_one (i := 8) (by kernel_rfl) (o_call rfl 65 rfl (by kernel_rfl) (run_op_callV 47 _ _ _ rfl #[.pointer (some ⟨K2, 0, none⟩), .pointer (some ⟨S2, 0, none⟩), .pointer (some ⟨P2, 0, none⟩)] rfl #[.agg (u8s x2).toArray] (by simp only [List.map_toArray, List.map_cons, List.map_nil]; rfl) Tryd.func47 (by kernel_rfl) (by kernel_rfl) _) (CU2.out _ U2_206 (HKW.out _ bel_206)) ?_)
          rintro e y207 ⟨rfl, hV2, hT⟩
          have U1_208 : UpAt y207 K1 S1 P1 q (k + 1) n1 := U1_206.two hT (Or.inr (by omega)) (Or.inr (by omega))
          have U2_208 : UpAt y207 K2 S2 P2 q (k + 1) n2 := hV2
          have X_208 : Row y207 X 74 (c1) := X_206.two hT (by omega) (by omega)
          have Y_208 : Row y207 Y 74 (c2) := Y_206.two hT (by omega) (by omega)
          have B_208 : Row y207 B 60 (clc b M) := B_206.two hT (by omega) (by omega)
          have G_208 : Row y207 G 23 (u8s x1) := G_206.two hT (by omega) (by omega)
          have bel_208 : Below w.heap.size w y207 := Below.two_ bel_206 hT gK2 gS2 bel_206.size
          clear U1_206 U2_206 X_206 Y_206 B_206 G_206 bel_206 hT
          refine ⟨_, rfl, ⟨B_208, G_208, trivial⟩, ?_⟩
          simp only [Act.put, List.setIfInBounds_toArray, List.set_cons_zero, List.set_cons_succ]
          clear hV2
          refine h_one (i := 9) (by kernel_rfl) (o_skip rfl rfl (by kernel_rfl) (run_op_store _ _ _ rfl X (0) rfl (ncs (k + 1) l1 r1 n1) rfl _ _ X_208 (by rw [ncs_len KL1.out KR1.out KN1.out, HLC1.out]; omega) (ncs_one _ _ _ _) (sz_node KL1.out KR1.out KN1.out)) ?_)
          have rq := row_setRow X_208 (lay (c1) (0) (ncs (k + 1) l1 r1 n1))
          have oq := Only.setRow X y207 (lay (c1) (0) (ncs (k + 1) l1 r1 n1)).toArray
          generalize y207.setRow X (lay (c1) (0) (ncs (k + 1) l1 r1 n1)).toArray = y209 at rq oq ⊢
          have U1_210 : UpAt y209 K1 S1 P1 q (k + 1) n1 := U1_208.only oq (Or.inl (by omega))
          have U2_210 : UpAt y209 K2 S2 P2 q (k + 1) n2 := U2_208.only oq (Or.inl (by omega))
          have X_210 : Row y209 X 74 (ncs (k + 1) l1 r1 n1) := rq.congr (lay_all _ _ (by rw [ncs_len KL1.out KR1.out KN1.out, HLC1.out]))
          have Y_210 : Row y209 Y 74 (c2) := Y_208.only oq (by omega)
          have B_210 : Row y209 B 60 (clc b M) := B_208.only oq (by omega)
          have G_210 : Row y209 G 23 (u8s x1) := G_208.only oq (by omega)
          have bel_210 : Below w.heap.size w y209 := below_only bel_208 oq geX bel_208.size
          clear U1_208 U2_208 X_208 Y_208 B_208 G_208 bel_208 oq
          clear rq
          refine ⟨⟨B_210, G_210, trivial⟩, ?_⟩
          refine h_one (i := 10) (by kernel_rfl) (o_skip rfl rfl (by kernel_rfl) (run_op_store _ _ _ rfl Y (0) rfl (ncs (k + 1) l2 r2 n2) rfl _ _ Y_210 (by rw [ncs_len KL2.out KR2.out KN2.out, HLC2.out]; omega) (ncs_one _ _ _ _) (sz_node KL2.out KR2.out KN2.out)) ?_)
          have rq := row_setRow Y_210 (lay (c2) (0) (ncs (k + 1) l2 r2 n2))
          have oq := Only.setRow Y y209 (lay (c2) (0) (ncs (k + 1) l2 r2 n2)).toArray
          generalize y209.setRow Y (lay (c2) (0) (ncs (k + 1) l2 r2 n2)).toArray = y211 at rq oq ⊢
          have U1_212 : UpAt y211 K1 S1 P1 q (k + 1) n1 := U1_210.only oq (Or.inl (by omega))
          have U2_212 : UpAt y211 K2 S2 P2 q (k + 1) n2 := U2_210.only oq (Or.inl (by omega))
          have X_212 : Row y211 X 74 (ncs (k + 1) l1 r1 n1) := X_210.only oq (by omega)
          have Y_212 : Row y211 Y 74 (ncs (k + 1) l2 r2 n2) := rq.congr (lay_all _ _ (by rw [ncs_len KL2.out KR2.out KN2.out, HLC2.out]))
          have B_212 : Row y211 B 60 (clc b M) := B_210.only oq (by omega)
          have G_212 : Row y211 G 23 (u8s x1) := G_210.only oq (by omega)
          have bel_212 : Below w.heap.size w y211 := below_only bel_210 oq geY bel_210.size
          clear U1_210 U2_210 X_210 Y_210 B_210 G_210 bel_210 oq
          clear rq
          refine ⟨⟨B_212, G_212, trivial⟩, ?_⟩
          refine wpAnyH_done (by kernel_rfl) ?_ _
          by_cases hq : n1 = n2
          · have HEQ := Lib.hid hq
            clear hq
            go_wp2_with (first
              | ((with_reducible refine at_slot 67 ?_); (refine arm_load (o := ⟨some 67, _, _, _, _, _⟩) rfl _ _ rfl X 65 rfl (u8s n1) ((n_d KL1.out KR1.out).range X_212) (szH KN1.out) ?_); try simp only [Act.put, List.setIfInBounds_toArray, List.set_cons_zero, List.set_cons_succ])
              | ((with_reducible refine at_slot 69 ?_); (refine arm_load (o := ⟨some 69, _, _, _, _, _⟩) rfl _ _ rfl Y 65 rfl (u8s n2) ((n_d KL2.out KR2.out).range Y_212) (szH KN2.out) ?_); try simp only [Act.put, List.setIfInBounds_toArray, List.set_cons_zero, List.set_cons_succ])
              | ((with_reducible refine at_slot 70 ?_); (refine arm_want (.bool true) 70 rfl (by kernel_rfl) (run_op_eqlD KN1.out KN2.out _ _ _ rfl rfl rfl true (iff_of_true rfl HEQ.out) _) ?_); try simp only [Act.put, List.setIfInBounds_toArray, List.set_cons_zero, List.set_cons_succ]))
            obtain ⟨i1, hi1⟩ : ∃ x, x = imgK q L a (k + 1) := ⟨_, rfl⟩
            obtain ⟨i2, hi2⟩ : ∃ x, x = imgK q M b (k + 1) := ⟨_, rfl⟩
            rw [← hi1] at CI1
            rw [← hi2] at CI2
            have HI1 := Lib.hid hi1; have HI2 := Lib.hid hi2
            clear hi1 hi2
            refine wp_region_held (S := fun w' => Row w' X 74 (ncs (k + 1) l1 r1 n1) ∧ Row w' Y 74 (ncs (k + 1) l2 r2 n2) ∧ True) (by kernel_rfl) ?_
            change wpAnyH _ _ _ _ _ _ _ _ y211.drew
            have hd213 : Below y211.heap.size y211 y211.drew := (Below.refl _ _).drew
            have U1_214 : UpAt y211.drew K1 S1 P1 q (k + 1) n1 := U1_212.old hd213
            have U2_214 : UpAt y211.drew K2 S2 P2 q (k + 1) n2 := U2_212.old hd213
            have X_214 : Row y211.drew X 74 (ncs (k + 1) l1 r1 n1) := X_212.old hd213
            have Y_214 : Row y211.drew Y 74 (ncs (k + 1) l2 r2 n2) := Y_212.old hd213
            have B_214 : Row y211.drew B 60 (clc b M) := B_212.old hd213
            have G_214 : Row y211.drew G 23 (u8s x1) := G_212.old hd213
            have bel_214 : Below w.heap.size w y211.drew := below_step bel_212 bel_212.size hd213
            clear U1_212 U2_212 X_212 Y_212 B_212 G_212 bel_212 hd213
            generalize y211.drew = yz213 at U1_214 U2_214 X_214 Y_214 B_214 G_214 bel_214 ⊢
            refine h_take 0 (.agg (ncs (k + 1) l1 r1 n1).toArray) rfl 72 rfl (by kernel_rfl) (by kernel_rfl) (by kernel_rfl) (by kernel_rfl) (fun _ _ _ h => h) (fun w' hw => run_op_load _ _ rfl X (0) rfl (ncs (k + 1) l1 r1 n1) (((Has.refl _)).range hw.1) ((sz_node KL1.out KR1.out KN1.out))) ⟨X_214, Y_214, trivial⟩ ?_
            simp only [Act.put, List.setIfInBounds_toArray, List.set_cons_zero, List.set_cons_succ]
            refine h_take 2 (.agg (ncs (k + 1) l2 r2 n2).toArray) rfl 74 rfl (by kernel_rfl) (by kernel_rfl) (by kernel_rfl) (by kernel_rfl) (fun _ _ _ h => h) (fun w' hw => run_op_load _ _ rfl Y (0) rfl (ncs (k + 1) l2 r2 n2) (((Has.refl _)).range hw.2.1) ((sz_node KL2.out KR2.out KN2.out))) ⟨X_214, Y_214, trivial⟩ ?_
            simp only [Act.put, List.setIfInBounds_toArray, List.set_cons_zero, List.set_cons_succ]
            refine h_one (i := 1) (by kernel_rfl) (o_call rfl 73 rfl (by kernel_rfl) (run_op_call 40 _ _ rfl #[.agg (ncs (k + 1) l1 r1 n1).toArray] (by simp only [List.map_toArray, List.map_cons, List.map_nil]; rfl) Tryd.func40 (by kernel_rfl) (by kernel_rfl) _) (CI1.out _) ?_)
            rintro e y215 ⟨⟨q1, c1, rfl, hC1⟩, hB⟩
            have U1_216 : UpAt y215 K1 S1 P1 q (k + 1) n1 := U1_214.old hB
            have U2_216 : UpAt y215 K2 S2 P2 q (k + 1) n2 := U2_214.old hB
            have X_216 : Row y215 X 74 (ncs (k + 1) l1 r1 n1) := X_214.old hB
            have Y_216 : Row y215 Y 74 (ncs (k + 1) l2 r2 n2) := Y_214.old hB
            have B_216 : Row y215 B 60 (clc b M) := B_214.old hB
            have G_216 : Row y215 G 23 (u8s x1) := G_214.old hB
            have bel_216 : Below w.heap.size w y215 := below_step bel_214 bel_214.size hB
            clear U1_214 U2_214 X_214 Y_214 B_214 G_214 bel_214 hB
            refine ⟨_, rfl, ⟨X_216, Y_216, trivial⟩, ?_⟩
            simp only [Act.put, List.setIfInBounds_toArray, List.set_cons_zero, List.set_cons_succ]
            refine h_one (i := 3) (by kernel_rfl) (o_call rfl 75 rfl (by kernel_rfl) (run_op_call 40 _ _ rfl #[.agg (ncs (k + 1) l2 r2 n2).toArray] (by simp only [List.map_toArray, List.map_cons, List.map_nil]; rfl) Tryd.func40 (by kernel_rfl) (by kernel_rfl) _) (CI2.out _) ?_)
            rintro e y217 ⟨⟨q2, c2, rfl, hC2⟩, hB⟩
            have U1_218 : UpAt y217 K1 S1 P1 q (k + 1) n1 := U1_216.old hB
            have U2_218 : UpAt y217 K2 S2 P2 q (k + 1) n2 := U2_216.old hB
            have X_218 : Row y217 X 74 (ncs (k + 1) l1 r1 n1) := X_216.old hB
            have Y_218 : Row y217 Y 74 (ncs (k + 1) l2 r2 n2) := Y_216.old hB
            have B_218 : Row y217 B 60 (clc b M) := B_216.old hB
            have G_218 : Row y217 G 23 (u8s x1) := G_216.old hB
            have C1_218 : Came y217 q1 c1 i1 := hC1.below hB
            have bel_218 : Below w.heap.size w y217 := below_step bel_216 bel_216.size hB
            clear U1_216 U2_216 X_216 Y_216 B_216 G_216 hC1 bel_216 hB
            refine ⟨_, rfl, ⟨X_218, Y_218, trivial⟩, ?_⟩
            simp only [Act.put, List.setIfInBounds_toArray, List.set_cons_zero, List.set_cons_succ]
            refine h_take 4 (.slice q1 i1.length c1) rfl 6 rfl (by kernel_rfl) (by kernel_rfl) (by kernel_rfl) (by kernel_rfl) (fun _ _ _ h => h) (fun w' _ => by kernel_rfl) ⟨X_218, Y_218, trivial⟩ ?_
            simp only [Act.put, List.setIfInBounds_toArray, List.set_cons_zero, List.set_cons_succ]
            refine h_take 5 (.slice q2 i2.length c2) rfl 7 rfl (by kernel_rfl) (by kernel_rfl) (by kernel_rfl) (by kernel_rfl) (fun _ _ _ h => h) (fun w' _ => by kernel_rfl) ⟨X_218, Y_218, trivial⟩ ?_
            simp only [Act.put, List.setIfInBounds_toArray, List.set_cons_zero, List.set_cons_succ]
            refine h_take 6 (.bool true) rfl 8 rfl (by kernel_rfl) (by kernel_rfl) (by kernel_rfl) (by kernel_rfl) (fun _ _ _ h => h) (fun w' _ => by kernel_rfl) ⟨X_218, Y_218, trivial⟩ ?_
            simp only [Act.put, List.setIfInBounds_toArray, List.set_cons_zero, List.set_cons_succ]
            refine wpAnyH_done (by kernel_rfl) ?_ _
            go_wp2_with fail
            refine bodyPost_ret (res_three rfl _ _ _) rfl ?_
            refine ⟨fun h => absurd (HM.out.symm.trans h) (Bool.false_ne_true ∘ Eq.symm), fun _ => ⟨k + 1, q1, c1, q2, c2, by omega, ?_, ?_, ?_, ?_, ?_⟩, bel_218⟩
            · rw [HN.out, ← HN1.out, ← HN2.out, HEQ.out]
            · intro j hj; rw [HN.out]; exact HNE.out j (by omega)
            · rw [HN.out, ← HI1.out, ← HI2.out]; rfl
            · rw [HN.out, ← HI1.out]; exact C1_218
            · rw [HN.out, ← HI2.out]; exact hC2
          · have HEQ := Lib.hid hq
            clear hq
            go_wp2_with (first
              | ((with_reducible refine at_slot 67 ?_); (refine arm_load (o := ⟨some 67, _, _, _, _, _⟩) rfl _ _ rfl X 65 rfl (u8s n1) ((n_d KL1.out KR1.out).range X_212) (szH KN1.out) ?_); try simp only [Act.put, List.setIfInBounds_toArray, List.set_cons_zero, List.set_cons_succ])
              | ((with_reducible refine at_slot 69 ?_); (refine arm_load (o := ⟨some 69, _, _, _, _, _⟩) rfl _ _ rfl Y 65 rfl (u8s n2) ((n_d KL2.out KR2.out).range Y_212) (szH KN2.out) ?_); try simp only [Act.put, List.setIfInBounds_toArray, List.set_cons_zero, List.set_cons_succ])
              | ((with_reducible refine at_slot 70 ?_); (refine arm_want (.bool false) 70 rfl (by kernel_rfl) (run_op_eqlD KN1.out KN2.out _ _ _ rfl rfl rfl false (iff_of_false Bool.false_ne_true HEQ.out) _) ?_); try simp only [Act.put, List.setIfInBounds_toArray, List.set_cons_zero, List.set_cons_succ]))
            try simp only [Act.put]
            go_roundw
            case rel => exact ⟨⟨k + 1, by omega, by go_num, HN1.out ▸ U1_212, HN2.out ▸ U2_212, X_212.congr HND1.out.symm, Y_212.congr HND2.out.symm, fun j hj => by
              rcases Nat.lt_or_ge k j with h | h
              · obtain rfl : j = k + 1 := by omega
                rw [← HN1.out, ← HN2.out]; exact HEQ.out
              · exact HNE.out j h⟩, B_212, bel_212⟩
            case measure => simp [intOf]; omega
        · obtain rfl : k = 4 := by omega
          exact absurd HLEAD2.out (HNE.out 4 (by omega))
end Go.Proofs.YtaihhbiocolhcaaDoor.Pf
