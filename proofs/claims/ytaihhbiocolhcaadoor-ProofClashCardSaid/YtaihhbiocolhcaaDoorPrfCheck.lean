/-
  The contracts of package proof's Claim.end, meet and Check: whether an account stands in a ledger; whether two claims lead to one digest. Over this seat's translation.
-/
import Derived.Test.YtaihhbiocolhcaaDoorPrfLead
import Derived.Test.YtaihhbiocolhcaaDoorAccAll
namespace Go.Proofs.YtaihhbiocolhcaaDoor.Pf
open Go.ChangeShapes Go.WideShapes Go.ChangeAt Go.RowKit Go.Proofs.YtaihhbiocolhcaaDoor.Mem Go.Proofs.YtaihhbiocolhcaaDoor.Bt Go.Proofs.YtaihhbiocolhcaaDoor.Wi Go.Proofs.YtaihhbiocolhcaaDoor.Sha Go.Proofs.YtaihhbiocolhcaaDoor.Ac Go.Proofs.YtaihhbiocolhcaaDoor.Tr
open Go.Proofs.YtaihhbiocolhcaaDoor.Tg (bytesOf bytesOf_length bytesOf_lt bytesOf_inj Rd Rd.below Parts parts_one arm_one tagD tagD_len tagOf_any refTag_any total image image_inj image_length)
open Go.Proofs.YtaihhbiocolhcaaDoor.Ep (H32 zh zh_ok Has h_len szH zH fitH allH came_at one_app)
set_option linter.unusedVariables false
set_option linter.unusedSimpArgs false

/-- To which digest a claim leads; what goes wrong. -/
def endD (p : Int) (a : Acct) (L : List (List Nat)) : List Nat := if NRt a.nm then leadI p L (digA a) else zh
def endE (p : Int) (a : Acct) : Nat := if NRt a.nm then pathE p else 1
theorem endD_ok (p : Int) (a : Acct) (L : List (List Nat)) : H32 (endD p a L) := by
  unfold endD
  split
  · exact leadI_ok (digA_ok a)
  · exact zh_ok
theorem endE_01 (p : Int) (a : Acct) : endE p a = 0 ∨ endE p a = 1 := by
  unfold endE pathE
  repeat' split
  all_goals simp
theorem endE_zero {p : Int} {a : Acct} (h : endE p a = 0) : NRt a.nm ∧ 0 ≤ p ∧ p < 16 := by
  unfold endE pathE at h
  split at h
  · rename_i h1
    split at h
    · rename_i h2; exact ⟨h1, h2⟩
    · omega
  · omega
theorem endE_in {p : Int} {a : Acct} (h : NRt a.nm) (h2 : 0 ≤ p ∧ p < 16) : endE p a = 0 := by
  unfold endE pathE
  rw [if_pos h, if_pos h2]
structure EndPost (w : World) (p : Int) (a : Acct) (L : List (List Nat)) (e : Ending) (w' : World) : Prop where
  ret : e = .returned (.tuple #[.agg (u8s (endD p a L)).toArray, .int .i64 (endE p a : Int)])
  bel : Below w.heap.size w w'
instance : DecidableEq Acct := fun ⟨s, x, y⟩ ⟨t, u, v⟩ => if h : s = t ∧ x = u ∧ y = v then isTrue (by obtain ⟨rfl, rfl, rfl⟩ := h; rfl) else isFalse (fun e => h (by cases e; exact ⟨rfl, rfl, rfl⟩))
/-- Two claims meet. -/
def meetB (p : Int) (a : Acct) (L : List (List Nat)) (b : Acct) (M : List (List Nat)) : Bool := decide (endE p a = 0 ∧ endE p b = 0 ∧ endD p a L = endD p b M ∧ ¬ a = b)
/-- What Check answers. -/
def chkE (root : List Nat) (p : Int) (a : Acct) (L : List (List Nat)) : Nat := if endE p a = 0 then (if endD p a L = root then 0 else 13) else 1
set_option maxHeartbeats 4000000 in
set_option maxRecDepth 100000 in
theorem end_any (p : Int) (a : Acct) (L : List (List Nat)) (w : World) (ka : a.Ok) (h4 : P4 L) (hk : w.rangeAt 1 0 (u32s ks)) :
    Calls Tryd.prog 32 #[.agg (clc a L).toArray, .int .i64 p] w (EndPost w p a L) := by
  have hk1 : 1 < w.heap.size := range_lt hk (by simp [u32s, ks])
  have HKW : Hid (∀ w', Below w.heap.size w w' → w'.rangeAt 1 0 (u32s ks)) := Lib.hid fun w' hb => range_block hk (hb.block _ hk1)
  have KA := Lib.hid (sz_acc a)
  have SP := Lib.hid (sz_path h4.ok h4.len)
  by_cases hn : NRt a.nm
  · have CH : Hid (∀ w0, w0.rangeAt 1 0 (u32s ks) → Calls Tryd.prog 27 #[.agg (acs a).toArray] w0 fun e w' => e = .returned (.tuple #[.agg (u8s (digA a)).toArray, .int .i64 0]) ∧ Below w0.heap.size w0 w') := Lib.hid fun w0 h => (ahash_any a w0 ka h).mono fun e w' h => ⟨by
      have h3 := h.ret
      rw [show ansH a = digA a from if_pos hn, show ansE a = 0 from if_pos hn] at h3
      exact h3, h.bel⟩
    have HE : Hid (endE p a = pathE p) := Lib.hid (if_pos hn)
    have HD : Hid (endD p a L = leadI p L (digA a)) := Lib.hid (if_pos hn)
    have CL := Lib.hid (fun w0 h => lead_any p L (digA a) w0 h4 (digA_ok a) h)
    have KD := Lib.hid (digA_ok a)
    have KE := Lib.hid (leadI_ok (p := p) (L := L) (digA_ok a))
    clear hk hk1 ka h4 hn
    generalize digA a = da at CH CL KD KE HD
    go_enter Tryd.func32, Tryd.ntmps32
    go_wp2_with (first
      | ((with_reducible refine at_slot 2 ?_); (refine arm_box (o := ⟨some 2, _, _, _, _, _⟩) rfl _ _ rfl (clc a L) rfl ?_); intro C v1 Ce hv1 nv1; try simp only [Act.put, List.setIfInBounds_toArray, List.set_cons_zero, List.set_cons_succ])
      | ((with_reducible refine at_slot 4 ?_); (refine arm_alloc (o := ⟨some 4, _, _, _, _, _⟩) rfl _ rfl (u8s zh) zH ?_); intro R v2 Re hv2 nv2; try simp only [Act.put, List.setIfInBounds_toArray, List.set_cons_zero, List.set_cons_succ])
      | ((with_reducible refine at_slot 10 ?_); (refine pause ?_); try simp only [Act.put, List.setIfInBounds_toArray, List.set_cons_zero, List.set_cons_succ]))
    have hbv1 := nv1.below
    have rrv1 : Row v1 C 60 (clc a L) := hv1
    have hbv2 := nv2.below
    have rrv2 : Row v2 R 23 (u8s zh) := hv2
    have geC : w.heap.size ≤ C := by have := Ce.out; omega
    clear hv1 nv1 Ce
    have bel_3 : Below w.heap.size w v1 := hbv1
    clear hbv1
    have geR : w.heap.size ≤ R := by have := Re.out; have := bel_3.size; omega
    have ltCR : C < R := by have := Re.out; have := rrv1.lt; omega
    clear hv2 nv2 Re
    have C_4 : Row v2 C 60 (clc a L) := rrv1.old hbv2
    have bel_4 : Below w.heap.size w v2 := below_step bel_3 bel_3.size hbv2
    clear rrv1 bel_3 hbv2
    refine go_on ?_
    go_wp2_with (first
      | ((with_reducible refine at_slot 10 ?_); (refine arm_load (o := ⟨some 10, _, _, _, _, _⟩) rfl _ _ rfl C 0 rfl (acs a) ((c_a a L).range C_4) KA.out ?_); try simp only [Act.put, List.setIfInBounds_toArray, List.set_cons_zero, List.set_cons_succ]))
    refine (CH.out _ (HKW.out _ bel_4)).mono ?_
    rintro e y5 ⟨rfl, hB⟩
    have C_6 : Row y5 C 60 (clc a L) := C_4.old hB
    have R_6 : Row y5 R 23 (u8s zh) := rrv2.old hB
    have bel_6 : Below w.heap.size w y5 := below_step bel_4 bel_4.size hB
    clear C_4 rrv2 bel_4 hB
    go_wp2_with (first
      | ((with_reducible refine at_slot 6 ?_); (refine arm_alloc (o := ⟨some 6, _, _, _, _, _⟩) rfl _ rfl (u8s zh) zH ?_); intro D v7a De hDa nD; try simp only [Act.put, List.setIfInBounds_toArray, List.set_cons_zero, List.set_cons_succ])
      | ((with_reducible refine arm_store (o := ⟨none, _, _, _, _, _⟩) rfl _ _ _ rfl D 0 rfl (u8s da) rfl _ _ hDa (fitH KD.out) (u8s_one _) (szH KD.out) ?_); intro v7 hDb oD sD; try simp only [Act.put, List.setIfInBounds_toArray, List.set_cons_zero, List.set_cons_succ])
      | ((with_reducible refine at_slot 15 ?_); (refine arm_want (.bool false) 15 rfl (by kernel_rfl) (cmp_neq _ _ .i64 (by kernel_rfl) _ _ rfl .i64 (0) (0) rfl rfl false (by decide) _) ?_); try simp only [Act.put, List.setIfInBounds_toArray, List.set_cons_zero, List.set_cons_succ])
      | ((with_reducible refine at_slot 19 ?_); (refine arm_load (o := ⟨some 19, _, _, _, _, _⟩) rfl _ _ rfl D 0 rfl (u8s da) ((Has.refl _).range (hDb.congr (allH KD.out))) (szH KD.out) ?_); try simp only [Act.put, List.setIfInBounds_toArray, List.set_cons_zero, List.set_cons_succ])
      | ((with_reducible refine at_slot 21 ?_); (refine arm_load (o := ⟨some 21, _, _, _, _, _⟩) rfl _ _ rfl C 3 rfl (dgC L) ((c_p a L).range ((C_6.old nD.below).only oD (by have := De.out; have := C_6.lt; omega))) SP.out ?_); try simp only [Act.put, List.setIfInBounds_toArray, List.set_cons_zero, List.set_cons_succ]))
    have lD : y5.heap.size ≤ D := by have := De.out; omega
    have bD : Below y5.heap.size y5 v7 := below_only nD.below oD lD nD.below.size
    have rrD : Row v7 D 23 (u8s da) := hDb.congr (allH KD.out)
    have geD : w.heap.size ≤ D := Nat.le_trans bel_6.size lD
    have neRD : R ≠ D := by have := R_6.lt; omega
    clear hDa hDb nD oD sD De lD
    have C_8 : Row v7 C 60 (clc a L) := C_6.old bD
    have R_8 : Row v7 R 23 (u8s zh) := R_6.old bD
    have bel_8 : Below w.heap.size w v7 := below_step bel_6 bel_6.size bD
    clear C_6 R_6 bel_6 bD
    refine (CL.out _ (HKW.out _ bel_8)).mono ?_
    rintro e y9 ⟨rfl, hB⟩
    have C_10 : Row y9 C 60 (clc a L) := C_8.old hB
    have R_10 : Row y9 R 23 (u8s zh) := R_8.old hB
    have D_10 : Row y9 D 23 (u8s da) := rrD.old hB
    have bel_10 : Below w.heap.size w y9 := below_step bel_8 bel_8.size hB
    clear C_8 R_8 rrD bel_8 hB
    generalize leadI p L da = dd at HD KE ⊢
    go_wp2_with (first
      | ((with_reducible refine arm_store (o := ⟨none, _, _, _, _, _⟩) rfl _ _ _ rfl R 0 rfl (u8s dd) rfl _ _ (R_10) (fitH KE.out) (u8s_one _) (szH KE.out) ?_); intro y9 hy9 oy9 sy9; try simp only [Act.put, List.setIfInBounds_toArray, List.set_cons_zero, List.set_cons_succ]))
    exact bodyPost_ret (result_row2 (p := 4) (u := 5) (ty := 23) (t := 23) (by kernel_rfl) _ _ R (u8s dd) (.int .i64 (pathE p : Int)) rfl rfl (hy9.congr (allH KE.out)) (szH KE.out)) rfl ⟨by rw [HD.out, HE.out], below_only bel_10 oy9 geR bel_10.size⟩
  · have CH : Hid (∀ w0, w0.rangeAt 1 0 (u32s ks) → Calls Tryd.prog 27 #[.agg (acs a).toArray] w0 fun e w' => e = .returned (.tuple #[.agg (u8s zh).toArray, .int .i64 1]) ∧ Below w0.heap.size w0 w') := Lib.hid fun w0 h => (ahash_any a w0 ka h).mono fun e w' h => ⟨by
      have h3 := h.ret
      rw [show ansH a = zh from if_neg hn, show ansE a = 1 from if_neg hn] at h3
      exact h3, h.bel⟩
    have HE : Hid (endE p a = 1) := Lib.hid (if_neg hn)
    have HD : Hid (endD p a L = zh) := Lib.hid (if_neg hn)
    clear hk hk1 ka h4 hn
    go_enter Tryd.func32, Tryd.ntmps32
    go_wp2_with (first
      | ((with_reducible refine at_slot 2 ?_); (refine arm_box (o := ⟨some 2, _, _, _, _, _⟩) rfl _ _ rfl (clc a L) rfl ?_); intro C v1 Ce hv1 nv1; try simp only [Act.put, List.setIfInBounds_toArray, List.set_cons_zero, List.set_cons_succ])
      | ((with_reducible refine at_slot 4 ?_); (refine arm_alloc (o := ⟨some 4, _, _, _, _, _⟩) rfl _ rfl (u8s zh) zH ?_); intro R v2 Re hv2 nv2; try simp only [Act.put, List.setIfInBounds_toArray, List.set_cons_zero, List.set_cons_succ])
      | ((with_reducible refine at_slot 10 ?_); (refine pause ?_); try simp only [Act.put, List.setIfInBounds_toArray, List.set_cons_zero, List.set_cons_succ]))
    have hbv1 := nv1.below
    have rrv1 : Row v1 C 60 (clc a L) := hv1
    have hbv2 := nv2.below
    have rrv2 : Row v2 R 23 (u8s zh) := hv2
    have geC : w.heap.size ≤ C := by have := Ce.out; omega
    clear hv1 nv1 Ce
    have bel_3 : Below w.heap.size w v1 := hbv1
    clear hbv1
    have geR : w.heap.size ≤ R := by have := Re.out; have := bel_3.size; omega
    have ltCR : C < R := by have := Re.out; have := rrv1.lt; omega
    clear hv2 nv2 Re
    have C_4 : Row v2 C 60 (clc a L) := rrv1.old hbv2
    have bel_4 : Below w.heap.size w v2 := below_step bel_3 bel_3.size hbv2
    clear rrv1 bel_3 hbv2
    refine go_on ?_
    go_wp2_with (first
      | ((with_reducible refine at_slot 10 ?_); (refine arm_load (o := ⟨some 10, _, _, _, _, _⟩) rfl _ _ rfl C 0 rfl (acs a) ((c_a a L).range C_4) KA.out ?_); try simp only [Act.put, List.setIfInBounds_toArray, List.set_cons_zero, List.set_cons_succ]))
    refine (CH.out _ (HKW.out _ bel_4)).mono ?_
    rintro e y5 ⟨rfl, hB⟩
    have C_6 : Row y5 C 60 (clc a L) := C_4.old hB
    have R_6 : Row y5 R 23 (u8s zh) := rrv2.old hB
    have bel_6 : Below w.heap.size w y5 := below_step bel_4 bel_4.size hB
    clear C_4 rrv2 bel_4 hB
    go_wp2_with (first
      | ((with_reducible refine at_slot 6 ?_); (refine arm_alloc (o := ⟨some 6, _, _, _, _, _⟩) rfl _ rfl (u8s zh) zH ?_); intro D v7a De hDa nD; try simp only [Act.put, List.setIfInBounds_toArray, List.set_cons_zero, List.set_cons_succ])
      | ((with_reducible refine arm_store (o := ⟨none, _, _, _, _, _⟩) rfl _ _ _ rfl D 0 rfl (u8s zh) rfl _ _ hDa (fitH zh_ok) (u8s_one _) (szH zh_ok) ?_); intro v7 hDb oD sD; try simp only [Act.put, List.setIfInBounds_toArray, List.set_cons_zero, List.set_cons_succ])
      | ((with_reducible refine at_slot 15 ?_); (refine arm_want (.bool true) 15 rfl (by kernel_rfl) (cmp_neq _ _ .i64 (by kernel_rfl) _ _ rfl .i64 (1) (0) rfl rfl true (by decide) _) ?_); try simp only [Act.put, List.setIfInBounds_toArray, List.set_cons_zero, List.set_cons_succ])
      | ((with_reducible refine at_slot 16 ?_); (refine arm_build (o := ⟨some 16, _, _, _, _, _⟩) rfl _ _ rfl (u8s zh) (by kernel_rfl) ?_); try simp only [Act.put, List.setIfInBounds_toArray, List.set_cons_zero, List.set_cons_succ])
      | ((with_reducible refine arm_store (o := ⟨none, _, _, _, _, _⟩) rfl _ _ _ rfl R 0 rfl (u8s zh) rfl _ _ (((R_6.old nD.below).only oD (by have := De.out; have := R_6.lt; omega))) (fitH zh_ok) (u8s_one _) (szH zh_ok) ?_); intro y9 hy9 oy9 sy9; try simp only [Act.put, List.setIfInBounds_toArray, List.set_cons_zero, List.set_cons_succ]))
    have lD : y5.heap.size ≤ D := by have := De.out; omega
    have bD : Below y5.heap.size y5 v7 := below_only nD.below oD lD nD.below.size
    have rrD : Row v7 D 23 (u8s zh) := hDb.congr (allH zh_ok)
    have geD : w.heap.size ≤ D := Nat.le_trans bel_6.size lD
    have neRD : R ≠ D := by have := R_6.lt; omega
    clear hDa hDb nD oD sD De lD
    have C_8 : Row v7 C 60 (clc a L) := C_6.old bD
    have R_8 : Row v7 R 23 (u8s zh) := R_6.old bD
    have bel_8 : Below w.heap.size w v7 := below_step bel_6 bel_6.size bD
    clear C_6 R_6 bel_6 bD
    exact bodyPost_ret (result_row2 (p := 4) (u := 5) (ty := 23) (t := 23) (by kernel_rfl) _ _ R (u8s zh) (.int .i64 1) rfl rfl (hy9.congr (allH zh_ok)) (szH zh_ok)) rfl ⟨by rw [HD.out, HE.out]; rfl, below_only bel_8 oy9 geR bel_8.size⟩
set_option maxHeartbeats 4000000 in
set_option maxRecDepth 100000 in
theorem meet_any (p : Int) (a b : Acct) (L M : List (List Nat)) (w : World) (ka : a.Ok) (kb : b.Ok) (h4 : P4 L) (g4 : P4 M) (hk : w.rangeAt 1 0 (u32s ks)) :
    Calls Tryd.prog 38 #[.int .i64 p, .agg (clc a L).toArray, .agg (clc b M).toArray] w fun e w' => e = .returned (.bool (meetB p a L b M)) ∧ Below w.heap.size w w' := by
  have hk1 : 1 < w.heap.size := range_lt hk (by simp [u32s, ks])
  have HKW : Hid (∀ w', Below w.heap.size w w' → w'.rangeAt 1 0 (u32s ks)) := Lib.hid fun w' hb => range_block hk (hb.block _ hk1)
  have KA := Lib.hid (sz_acc a); have KB := Lib.hid (sz_acc b)
  have SA := Lib.hid (sz_claim a h4); have SB := Lib.hid (sz_claim b g4)
  have CA := Lib.hid (fun w0 h => end_any p a L w0 ka h4 h)
  have CB := Lib.hid (fun w0 h => end_any p b M w0 kb g4 h)
  have KD := Lib.hid (endD_ok p a L); have KE := Lib.hid (endD_ok p b M)
  have HM : Hid (meetB p a L b M = decide (endE p a = 0 ∧ endE p b = 0 ∧ endD p a L = endD p b M ∧ ¬ a = b)) := Lib.hid rfl
  have E1 := endE_01 p a; have E2 := endE_01 p b
  clear hk hk1 ka kb h4 g4
  obtain ⟨da, hda⟩ : ∃ d, d = endD p a L := ⟨_, rfl⟩
  obtain ⟨db, hdb⟩ : ∃ d, d = endD p b M := ⟨_, rfl⟩
  obtain ⟨ea, hea⟩ : ∃ e, e = endE p a := ⟨_, rfl⟩
  obtain ⟨eb, heb⟩ : ∃ e, e = endE p b := ⟨_, rfl⟩
  have CA2 : Hid (∀ w0, w0.rangeAt 1 0 (u32s ks) → Calls Tryd.prog 32 #[.agg (clc a L).toArray, .int .i64 p] w0 fun e w' => e = .returned (.tuple #[.agg (u8s da).toArray, .int .i64 (ea : Int)]) ∧ Below w0.heap.size w0 w') := Lib.hid fun w0 h => (CA.out w0 h).mono fun e w' h => ⟨by rw [hda, hea]; exact h.ret, h.bel⟩
  have CB2 : Hid (∀ w0, w0.rangeAt 1 0 (u32s ks) → Calls Tryd.prog 32 #[.agg (clc b M).toArray, .int .i64 p] w0 fun e w' => e = .returned (.tuple #[.agg (u8s db).toArray, .int .i64 (eb : Int)]) ∧ Below w0.heap.size w0 w') := Lib.hid fun w0 h => (CB.out w0 h).mono fun e w' h => ⟨by rw [hdb, heb]; exact h.ret, h.bel⟩
  have HM2 : Hid (meetB p a L b M = decide (ea = 0 ∧ eb = 0 ∧ da = db ∧ ¬ a = b)) := Lib.hid (by rw [hda, hdb, hea, heb]; rfl)
  rw [← hda] at KD
  rw [← hdb] at KE
  rw [← hea] at E1
  rw [← heb] at E2
  clear CA CB HM hda hdb hea heb
  generalize meetB p a L b M = rr at HM2 ⊢
  rcases E1 with rfl | rfl
  · rcases E2 with rfl | rfl
    · by_cases hd : da = db
      · have HQ := Lib.hid hd
        by_cases hab : a = b
        · have HR : Hid (rr = false) := Lib.hid (HM2.out.trans (decide_eq_false fun h => h.2.2.2 hab)); have HA := Lib.hid hab; clear hd hab
          clear HM2
          go_enter Tryd.func38, Tryd.ntmps38
          go_wp2_with (first
            | ((with_reducible refine at_slot 4 ?_); (refine arm_box (o := ⟨some 4, _, _, _, _, _⟩) rfl _ _ rfl (clc a L) rfl ?_); intro A v1 Ae hv1 nv1; try simp only [Act.put, List.setIfInBounds_toArray, List.set_cons_zero, List.set_cons_succ])
            | ((with_reducible refine at_slot 5 ?_); (refine arm_box (o := ⟨some 5, _, _, _, _, _⟩) rfl _ _ rfl (clc b M) rfl ?_); intro B v2 Be hv2 nv2; try simp only [Act.put, List.setIfInBounds_toArray, List.set_cons_zero, List.set_cons_succ])
            | ((with_reducible refine at_slot 12 ?_); (refine pause ?_); try simp only [Act.put, List.setIfInBounds_toArray, List.set_cons_zero, List.set_cons_succ]))
          have hbv1 := nv1.below
          have rrv1 : Row v1 A 60 (clc a L) := hv1
          have hbv2 := nv2.below
          have rrv2 : Row v2 B 60 (clc b M) := hv2
          have geA : w.heap.size ≤ A := by have := Ae.out; omega
          clear hv1 nv1 Ae
          have bel_3 : Below w.heap.size w v1 := hbv1
          clear hbv1
          have geB : w.heap.size ≤ B := by have := Be.out; have := bel_3.size; omega
          have ltAB : A < B := by have := Be.out; have := rrv1.lt; omega
          clear hv2 nv2 Be
          have A_4 : Row v2 A 60 (clc a L) := rrv1.old hbv2
          have bel_4 : Below w.heap.size w v2 := below_step bel_3 bel_3.size hbv2
          clear rrv1 bel_3 hbv2
          refine go_on ?_
          go_wp2_with (first
            | ((with_reducible refine at_slot 12 ?_); (refine arm_load (o := ⟨some 12, _, _, _, _, _⟩) rfl _ _ rfl A 0 rfl (clc a L) ((Has.refl _).range A_4) SA.out ?_); try simp only [Act.put, List.setIfInBounds_toArray, List.set_cons_zero, List.set_cons_succ]))
          refine (CA2.out _ (HKW.out _ bel_4)).mono ?_
          rintro e y5 ⟨rfl, hB⟩
          have A_6 : Row y5 A 60 (clc a L) := A_4.old hB
          have B_6 : Row y5 B 60 (clc b M) := rrv2.old hB
          have bel_6 : Below w.heap.size w y5 := below_step bel_4 bel_4.size hB
          clear A_4 rrv2 bel_4 hB
          go_wp2_with (first
            | ((with_reducible refine at_slot 7 ?_); (refine arm_alloc (o := ⟨some 7, _, _, _, _, _⟩) rfl _ rfl (u8s zh) zH ?_); intro D v7a De hDa nD; try simp only [Act.put, List.setIfInBounds_toArray, List.set_cons_zero, List.set_cons_succ])
            | ((with_reducible refine arm_store (o := ⟨none, _, _, _, _, _⟩) rfl _ _ _ rfl D 0 rfl (u8s da) rfl _ _ hDa (fitH KD.out) (u8s_one _) (szH KD.out) ?_); intro v7 hDb oD sD; try simp only [Act.put, List.setIfInBounds_toArray, List.set_cons_zero, List.set_cons_succ])
            | ((with_reducible refine at_slot 18 ?_); (refine pause ?_); try simp only [Act.put, List.setIfInBounds_toArray, List.set_cons_zero, List.set_cons_succ]))
          have lD : y5.heap.size ≤ D := by have := De.out; omega
          have bD : Below y5.heap.size y5 v7 := below_only nD.below oD lD nD.below.size
          have rrD : Row v7 D 23 (u8s da) := hDb.congr (allH KD.out)
          have geD : w.heap.size ≤ D := Nat.le_trans bel_6.size lD
          clear hDa hDb nD oD sD De lD
          have A_8 : Row v7 A 60 (clc a L) := A_6.old bD
          have B_8 : Row v7 B 60 (clc b M) := B_6.old bD
          have bel_8 : Below w.heap.size w v7 := below_step bel_6 bel_6.size bD
          clear A_6 B_6 bel_6 bD
          refine go_on ?_
          go_wp2_with (first
            | ((with_reducible refine at_slot 18 ?_); (refine arm_load (o := ⟨some 18, _, _, _, _, _⟩) rfl _ _ rfl B 0 rfl (clc b M) ((Has.refl _).range B_8) SB.out ?_); try simp only [Act.put, List.setIfInBounds_toArray, List.set_cons_zero, List.set_cons_succ]))
          refine (CB2.out _ (HKW.out _ bel_8)).mono ?_
          rintro e y9 ⟨rfl, hB⟩
          have A_10 : Row y9 A 60 (clc a L) := A_8.old hB
          have B_10 : Row y9 B 60 (clc b M) := B_8.old hB
          have D_10 : Row y9 D 23 (u8s da) := rrD.old hB
          have bel_10 : Below w.heap.size w y9 := below_step bel_8 bel_8.size hB
          clear A_8 B_8 rrD bel_8 hB
          go_wp2_with (first
            | ((with_reducible refine at_slot 9 ?_); (refine arm_alloc (o := ⟨some 9, _, _, _, _, _⟩) rfl _ rfl (u8s zh) zH ?_); intro E v11a Ee hEa nE; try simp only [Act.put, List.setIfInBounds_toArray, List.set_cons_zero, List.set_cons_succ])
            | ((with_reducible refine arm_store (o := ⟨none, _, _, _, _, _⟩) rfl _ _ _ rfl E 0 rfl (u8s db) rfl _ _ hEa (fitH KE.out) (u8s_one _) (szH KE.out) ?_); intro v11 hEb oE sE; try simp only [Act.put, List.setIfInBounds_toArray, List.set_cons_zero, List.set_cons_succ])
            | ((with_reducible refine at_slot 24 ?_); (refine arm_want (.bool true) 24 rfl (by kernel_rfl) (cmp_eql _ _ .i64 (by kernel_rfl) _ _ rfl .i64 (0) (0) rfl rfl true (by decide) _) ?_); try simp only [Act.put, List.setIfInBounds_toArray, List.set_cons_zero, List.set_cons_succ])
            | ((with_reducible refine at_slot 27 ?_); (refine arm_want (.bool true) 27 rfl (by kernel_rfl) (cmp_eql _ _ .i64 (by kernel_rfl) _ _ rfl .i64 (0) (0) rfl rfl true (by decide) _) ?_); try simp only [Act.put, List.setIfInBounds_toArray, List.set_cons_zero, List.set_cons_succ])
            | ((with_reducible refine at_slot 30 ?_); (refine arm_want (.agg (u8s da).toArray) 30 rfl (by kernel_rfl) (run_op_load _ _ rfl D 0 rfl (u8s da) ((Has.refl _).range ((D_10.old nE.below).only oE (by have := Ee.out; have := D_10.lt; omega))) (szH KD.out)) ?_); try simp only [Act.put, List.setIfInBounds_toArray, List.set_cons_zero, List.set_cons_succ])
            | ((with_reducible refine at_slot 31 ?_); (refine arm_want (.agg (u8s db).toArray) 31 rfl (by kernel_rfl) (run_op_load _ _ rfl E 0 rfl (u8s db) ((Has.refl _).range (hEb.congr (allH KE.out))) (szH KE.out)) ?_); try simp only [Act.put, List.setIfInBounds_toArray, List.set_cons_zero, List.set_cons_succ])
            | ((with_reducible refine at_slot 32 ?_); (refine arm_want (.bool true) 32 rfl (by kernel_rfl) (run_op_eqlD KD.out KE.out _ _ _ rfl rfl rfl true (iff_of_true rfl HQ.out) _) ?_); try simp only [Act.put, List.setIfInBounds_toArray, List.set_cons_zero, List.set_cons_succ])
            | ((with_reducible refine at_slot 36 ?_); (refine arm_want (.agg (acs a).toArray) 36 rfl (by kernel_rfl) (run_op_load _ _ rfl A 0 rfl (acs a) ((c_a a L).range ((A_10.old nE.below).only oE (by have := Ee.out; have := A_10.lt; omega))) KA.out) ?_); try simp only [Act.put, List.setIfInBounds_toArray, List.set_cons_zero, List.set_cons_succ])
            | ((with_reducible refine at_slot 38 ?_); (refine arm_want (.agg (acs b).toArray) 38 rfl (by kernel_rfl) (run_op_load _ _ rfl B 0 rfl (acs b) ((c_a b M).range ((B_10.old nE.below).only oE (by have := Ee.out; have := B_10.lt; omega))) KB.out) ?_); try simp only [Act.put, List.setIfInBounds_toArray, List.set_cons_zero, List.set_cons_succ])
            | ((with_reducible refine at_slot 39 ?_); (refine arm_want (.bool false) 39 rfl (by kernel_rfl) (run_op_neqA _ _ _ rfl a b rfl rfl true (iff_of_true rfl HA.out) _) ?_); try simp only [Act.put, List.setIfInBounds_toArray, List.set_cons_zero, List.set_cons_succ]))
          have lE : y9.heap.size ≤ E := by have := Ee.out; omega
          have bE : Below y9.heap.size y9 v11 := below_only nE.below oE lE nE.below.size
          have rrE : Row v11 E 23 (u8s db) := hEb.congr (allH KE.out)
          have geE : w.heap.size ≤ E := Nat.le_trans bel_10.size lE
          clear hEa hEb nE oE sE Ee lE
          have A_12 : Row v11 A 60 (clc a L) := A_10.old bE
          have B_12 : Row v11 B 60 (clc b M) := B_10.old bE
          have D_12 : Row v11 D 23 (u8s da) := D_10.old bE
          have bel_12 : Below w.heap.size w v11 := below_step bel_10 bel_10.size bE
          clear A_10 B_10 D_10 bel_10 bE
          go_ret
          exact ⟨by rw [HR.out]; rfl, bel_12⟩
        · have HR : Hid (rr = true) := Lib.hid (HM2.out.trans (decide_eq_true ⟨rfl, rfl, hd, hab⟩)); have HA := Lib.hid hab; clear hd hab
          clear HM2
          go_enter Tryd.func38, Tryd.ntmps38
          go_wp2_with (first
            | ((with_reducible refine at_slot 4 ?_); (refine arm_box (o := ⟨some 4, _, _, _, _, _⟩) rfl _ _ rfl (clc a L) rfl ?_); intro A v1 Ae hv1 nv1; try simp only [Act.put, List.setIfInBounds_toArray, List.set_cons_zero, List.set_cons_succ])
            | ((with_reducible refine at_slot 5 ?_); (refine arm_box (o := ⟨some 5, _, _, _, _, _⟩) rfl _ _ rfl (clc b M) rfl ?_); intro B v2 Be hv2 nv2; try simp only [Act.put, List.setIfInBounds_toArray, List.set_cons_zero, List.set_cons_succ])
            | ((with_reducible refine at_slot 12 ?_); (refine pause ?_); try simp only [Act.put, List.setIfInBounds_toArray, List.set_cons_zero, List.set_cons_succ]))
          have hbv1 := nv1.below
          have rrv1 : Row v1 A 60 (clc a L) := hv1
          have hbv2 := nv2.below
          have rrv2 : Row v2 B 60 (clc b M) := hv2
          have geA : w.heap.size ≤ A := by have := Ae.out; omega
          clear hv1 nv1 Ae
          have bel_3 : Below w.heap.size w v1 := hbv1
          clear hbv1
          have geB : w.heap.size ≤ B := by have := Be.out; have := bel_3.size; omega
          have ltAB : A < B := by have := Be.out; have := rrv1.lt; omega
          clear hv2 nv2 Be
          have A_4 : Row v2 A 60 (clc a L) := rrv1.old hbv2
          have bel_4 : Below w.heap.size w v2 := below_step bel_3 bel_3.size hbv2
          clear rrv1 bel_3 hbv2
          refine go_on ?_
          go_wp2_with (first
            | ((with_reducible refine at_slot 12 ?_); (refine arm_load (o := ⟨some 12, _, _, _, _, _⟩) rfl _ _ rfl A 0 rfl (clc a L) ((Has.refl _).range A_4) SA.out ?_); try simp only [Act.put, List.setIfInBounds_toArray, List.set_cons_zero, List.set_cons_succ]))
          refine (CA2.out _ (HKW.out _ bel_4)).mono ?_
          rintro e y5 ⟨rfl, hB⟩
          have A_6 : Row y5 A 60 (clc a L) := A_4.old hB
          have B_6 : Row y5 B 60 (clc b M) := rrv2.old hB
          have bel_6 : Below w.heap.size w y5 := below_step bel_4 bel_4.size hB
          clear A_4 rrv2 bel_4 hB
          go_wp2_with (first
            | ((with_reducible refine at_slot 7 ?_); (refine arm_alloc (o := ⟨some 7, _, _, _, _, _⟩) rfl _ rfl (u8s zh) zH ?_); intro D v7a De hDa nD; try simp only [Act.put, List.setIfInBounds_toArray, List.set_cons_zero, List.set_cons_succ])
            | ((with_reducible refine arm_store (o := ⟨none, _, _, _, _, _⟩) rfl _ _ _ rfl D 0 rfl (u8s da) rfl _ _ hDa (fitH KD.out) (u8s_one _) (szH KD.out) ?_); intro v7 hDb oD sD; try simp only [Act.put, List.setIfInBounds_toArray, List.set_cons_zero, List.set_cons_succ])
            | ((with_reducible refine at_slot 18 ?_); (refine pause ?_); try simp only [Act.put, List.setIfInBounds_toArray, List.set_cons_zero, List.set_cons_succ]))
          have lD : y5.heap.size ≤ D := by have := De.out; omega
          have bD : Below y5.heap.size y5 v7 := below_only nD.below oD lD nD.below.size
          have rrD : Row v7 D 23 (u8s da) := hDb.congr (allH KD.out)
          have geD : w.heap.size ≤ D := Nat.le_trans bel_6.size lD
          clear hDa hDb nD oD sD De lD
          have A_8 : Row v7 A 60 (clc a L) := A_6.old bD
          have B_8 : Row v7 B 60 (clc b M) := B_6.old bD
          have bel_8 : Below w.heap.size w v7 := below_step bel_6 bel_6.size bD
          clear A_6 B_6 bel_6 bD
          refine go_on ?_
          go_wp2_with (first
            | ((with_reducible refine at_slot 18 ?_); (refine arm_load (o := ⟨some 18, _, _, _, _, _⟩) rfl _ _ rfl B 0 rfl (clc b M) ((Has.refl _).range B_8) SB.out ?_); try simp only [Act.put, List.setIfInBounds_toArray, List.set_cons_zero, List.set_cons_succ]))
          refine (CB2.out _ (HKW.out _ bel_8)).mono ?_
          rintro e y9 ⟨rfl, hB⟩
          have A_10 : Row y9 A 60 (clc a L) := A_8.old hB
          have B_10 : Row y9 B 60 (clc b M) := B_8.old hB
          have D_10 : Row y9 D 23 (u8s da) := rrD.old hB
          have bel_10 : Below w.heap.size w y9 := below_step bel_8 bel_8.size hB
          clear A_8 B_8 rrD bel_8 hB
          go_wp2_with (first
            | ((with_reducible refine at_slot 9 ?_); (refine arm_alloc (o := ⟨some 9, _, _, _, _, _⟩) rfl _ rfl (u8s zh) zH ?_); intro E v11a Ee hEa nE; try simp only [Act.put, List.setIfInBounds_toArray, List.set_cons_zero, List.set_cons_succ])
            | ((with_reducible refine arm_store (o := ⟨none, _, _, _, _, _⟩) rfl _ _ _ rfl E 0 rfl (u8s db) rfl _ _ hEa (fitH KE.out) (u8s_one _) (szH KE.out) ?_); intro v11 hEb oE sE; try simp only [Act.put, List.setIfInBounds_toArray, List.set_cons_zero, List.set_cons_succ])
            | ((with_reducible refine at_slot 24 ?_); (refine arm_want (.bool true) 24 rfl (by kernel_rfl) (cmp_eql _ _ .i64 (by kernel_rfl) _ _ rfl .i64 (0) (0) rfl rfl true (by decide) _) ?_); try simp only [Act.put, List.setIfInBounds_toArray, List.set_cons_zero, List.set_cons_succ])
            | ((with_reducible refine at_slot 27 ?_); (refine arm_want (.bool true) 27 rfl (by kernel_rfl) (cmp_eql _ _ .i64 (by kernel_rfl) _ _ rfl .i64 (0) (0) rfl rfl true (by decide) _) ?_); try simp only [Act.put, List.setIfInBounds_toArray, List.set_cons_zero, List.set_cons_succ])
            | ((with_reducible refine at_slot 30 ?_); (refine arm_want (.agg (u8s da).toArray) 30 rfl (by kernel_rfl) (run_op_load _ _ rfl D 0 rfl (u8s da) ((Has.refl _).range ((D_10.old nE.below).only oE (by have := Ee.out; have := D_10.lt; omega))) (szH KD.out)) ?_); try simp only [Act.put, List.setIfInBounds_toArray, List.set_cons_zero, List.set_cons_succ])
            | ((with_reducible refine at_slot 31 ?_); (refine arm_want (.agg (u8s db).toArray) 31 rfl (by kernel_rfl) (run_op_load _ _ rfl E 0 rfl (u8s db) ((Has.refl _).range (hEb.congr (allH KE.out))) (szH KE.out)) ?_); try simp only [Act.put, List.setIfInBounds_toArray, List.set_cons_zero, List.set_cons_succ])
            | ((with_reducible refine at_slot 32 ?_); (refine arm_want (.bool true) 32 rfl (by kernel_rfl) (run_op_eqlD KD.out KE.out _ _ _ rfl rfl rfl true (iff_of_true rfl HQ.out) _) ?_); try simp only [Act.put, List.setIfInBounds_toArray, List.set_cons_zero, List.set_cons_succ])
            | ((with_reducible refine at_slot 36 ?_); (refine arm_want (.agg (acs a).toArray) 36 rfl (by kernel_rfl) (run_op_load _ _ rfl A 0 rfl (acs a) ((c_a a L).range ((A_10.old nE.below).only oE (by have := Ee.out; have := A_10.lt; omega))) KA.out) ?_); try simp only [Act.put, List.setIfInBounds_toArray, List.set_cons_zero, List.set_cons_succ])
            | ((with_reducible refine at_slot 38 ?_); (refine arm_want (.agg (acs b).toArray) 38 rfl (by kernel_rfl) (run_op_load _ _ rfl B 0 rfl (acs b) ((c_a b M).range ((B_10.old nE.below).only oE (by have := Ee.out; have := B_10.lt; omega))) KB.out) ?_); try simp only [Act.put, List.setIfInBounds_toArray, List.set_cons_zero, List.set_cons_succ])
            | ((with_reducible refine at_slot 39 ?_); (refine arm_want (.bool true) 39 rfl (by kernel_rfl) (run_op_neqA _ _ _ rfl a b rfl rfl false (iff_of_false Bool.false_ne_true HA.out) _) ?_); try simp only [Act.put, List.setIfInBounds_toArray, List.set_cons_zero, List.set_cons_succ]))
          have lE : y9.heap.size ≤ E := by have := Ee.out; omega
          have bE : Below y9.heap.size y9 v11 := below_only nE.below oE lE nE.below.size
          have rrE : Row v11 E 23 (u8s db) := hEb.congr (allH KE.out)
          have geE : w.heap.size ≤ E := Nat.le_trans bel_10.size lE
          clear hEa hEb nE oE sE Ee lE
          have A_12 : Row v11 A 60 (clc a L) := A_10.old bE
          have B_12 : Row v11 B 60 (clc b M) := B_10.old bE
          have D_12 : Row v11 D 23 (u8s da) := D_10.old bE
          have bel_12 : Below w.heap.size w v11 := below_step bel_10 bel_10.size bE
          clear A_10 B_10 D_10 bel_10 bE
          go_ret
          exact ⟨by rw [HR.out]; rfl, bel_12⟩
      · have HR : Hid (rr = false) := Lib.hid (HM2.out.trans (decide_eq_false fun h => hd h.2.2.1)); have HQ := Lib.hid hd; clear hd
        clear HM2
        go_enter Tryd.func38, Tryd.ntmps38
        go_wp2_with (first
          | ((with_reducible refine at_slot 4 ?_); (refine arm_box (o := ⟨some 4, _, _, _, _, _⟩) rfl _ _ rfl (clc a L) rfl ?_); intro A v1 Ae hv1 nv1; try simp only [Act.put, List.setIfInBounds_toArray, List.set_cons_zero, List.set_cons_succ])
          | ((with_reducible refine at_slot 5 ?_); (refine arm_box (o := ⟨some 5, _, _, _, _, _⟩) rfl _ _ rfl (clc b M) rfl ?_); intro B v2 Be hv2 nv2; try simp only [Act.put, List.setIfInBounds_toArray, List.set_cons_zero, List.set_cons_succ])
          | ((with_reducible refine at_slot 12 ?_); (refine pause ?_); try simp only [Act.put, List.setIfInBounds_toArray, List.set_cons_zero, List.set_cons_succ]))
        have hbv1 := nv1.below
        have rrv1 : Row v1 A 60 (clc a L) := hv1
        have hbv2 := nv2.below
        have rrv2 : Row v2 B 60 (clc b M) := hv2
        have geA : w.heap.size ≤ A := by have := Ae.out; omega
        clear hv1 nv1 Ae
        have bel_3 : Below w.heap.size w v1 := hbv1
        clear hbv1
        have geB : w.heap.size ≤ B := by have := Be.out; have := bel_3.size; omega
        have ltAB : A < B := by have := Be.out; have := rrv1.lt; omega
        clear hv2 nv2 Be
        have A_4 : Row v2 A 60 (clc a L) := rrv1.old hbv2
        have bel_4 : Below w.heap.size w v2 := below_step bel_3 bel_3.size hbv2
        clear rrv1 bel_3 hbv2
        refine go_on ?_
        go_wp2_with (first
          | ((with_reducible refine at_slot 12 ?_); (refine arm_load (o := ⟨some 12, _, _, _, _, _⟩) rfl _ _ rfl A 0 rfl (clc a L) ((Has.refl _).range A_4) SA.out ?_); try simp only [Act.put, List.setIfInBounds_toArray, List.set_cons_zero, List.set_cons_succ]))
        refine (CA2.out _ (HKW.out _ bel_4)).mono ?_
        rintro e y5 ⟨rfl, hB⟩
        have A_6 : Row y5 A 60 (clc a L) := A_4.old hB
        have B_6 : Row y5 B 60 (clc b M) := rrv2.old hB
        have bel_6 : Below w.heap.size w y5 := below_step bel_4 bel_4.size hB
        clear A_4 rrv2 bel_4 hB
        go_wp2_with (first
          | ((with_reducible refine at_slot 7 ?_); (refine arm_alloc (o := ⟨some 7, _, _, _, _, _⟩) rfl _ rfl (u8s zh) zH ?_); intro D v7a De hDa nD; try simp only [Act.put, List.setIfInBounds_toArray, List.set_cons_zero, List.set_cons_succ])
          | ((with_reducible refine arm_store (o := ⟨none, _, _, _, _, _⟩) rfl _ _ _ rfl D 0 rfl (u8s da) rfl _ _ hDa (fitH KD.out) (u8s_one _) (szH KD.out) ?_); intro v7 hDb oD sD; try simp only [Act.put, List.setIfInBounds_toArray, List.set_cons_zero, List.set_cons_succ])
          | ((with_reducible refine at_slot 18 ?_); (refine pause ?_); try simp only [Act.put, List.setIfInBounds_toArray, List.set_cons_zero, List.set_cons_succ]))
        have lD : y5.heap.size ≤ D := by have := De.out; omega
        have bD : Below y5.heap.size y5 v7 := below_only nD.below oD lD nD.below.size
        have rrD : Row v7 D 23 (u8s da) := hDb.congr (allH KD.out)
        have geD : w.heap.size ≤ D := Nat.le_trans bel_6.size lD
        clear hDa hDb nD oD sD De lD
        have A_8 : Row v7 A 60 (clc a L) := A_6.old bD
        have B_8 : Row v7 B 60 (clc b M) := B_6.old bD
        have bel_8 : Below w.heap.size w v7 := below_step bel_6 bel_6.size bD
        clear A_6 B_6 bel_6 bD
        refine go_on ?_
        go_wp2_with (first
          | ((with_reducible refine at_slot 18 ?_); (refine arm_load (o := ⟨some 18, _, _, _, _, _⟩) rfl _ _ rfl B 0 rfl (clc b M) ((Has.refl _).range B_8) SB.out ?_); try simp only [Act.put, List.setIfInBounds_toArray, List.set_cons_zero, List.set_cons_succ]))
        refine (CB2.out _ (HKW.out _ bel_8)).mono ?_
        rintro e y9 ⟨rfl, hB⟩
        have A_10 : Row y9 A 60 (clc a L) := A_8.old hB
        have B_10 : Row y9 B 60 (clc b M) := B_8.old hB
        have D_10 : Row y9 D 23 (u8s da) := rrD.old hB
        have bel_10 : Below w.heap.size w y9 := below_step bel_8 bel_8.size hB
        clear A_8 B_8 rrD bel_8 hB
        go_wp2_with (first
          | ((with_reducible refine at_slot 9 ?_); (refine arm_alloc (o := ⟨some 9, _, _, _, _, _⟩) rfl _ rfl (u8s zh) zH ?_); intro E v11a Ee hEa nE; try simp only [Act.put, List.setIfInBounds_toArray, List.set_cons_zero, List.set_cons_succ])
          | ((with_reducible refine arm_store (o := ⟨none, _, _, _, _, _⟩) rfl _ _ _ rfl E 0 rfl (u8s db) rfl _ _ hEa (fitH KE.out) (u8s_one _) (szH KE.out) ?_); intro v11 hEb oE sE; try simp only [Act.put, List.setIfInBounds_toArray, List.set_cons_zero, List.set_cons_succ])
          | ((with_reducible refine at_slot 24 ?_); (refine arm_want (.bool true) 24 rfl (by kernel_rfl) (cmp_eql _ _ .i64 (by kernel_rfl) _ _ rfl .i64 (0) (0) rfl rfl true (by decide) _) ?_); try simp only [Act.put, List.setIfInBounds_toArray, List.set_cons_zero, List.set_cons_succ])
          | ((with_reducible refine at_slot 27 ?_); (refine arm_want (.bool true) 27 rfl (by kernel_rfl) (cmp_eql _ _ .i64 (by kernel_rfl) _ _ rfl .i64 (0) (0) rfl rfl true (by decide) _) ?_); try simp only [Act.put, List.setIfInBounds_toArray, List.set_cons_zero, List.set_cons_succ])
          | ((with_reducible refine at_slot 30 ?_); (refine arm_want (.agg (u8s da).toArray) 30 rfl (by kernel_rfl) (run_op_load _ _ rfl D 0 rfl (u8s da) ((Has.refl _).range ((D_10.old nE.below).only oE (by have := Ee.out; have := D_10.lt; omega))) (szH KD.out)) ?_); try simp only [Act.put, List.setIfInBounds_toArray, List.set_cons_zero, List.set_cons_succ])
          | ((with_reducible refine at_slot 31 ?_); (refine arm_want (.agg (u8s db).toArray) 31 rfl (by kernel_rfl) (run_op_load _ _ rfl E 0 rfl (u8s db) ((Has.refl _).range (hEb.congr (allH KE.out))) (szH KE.out)) ?_); try simp only [Act.put, List.setIfInBounds_toArray, List.set_cons_zero, List.set_cons_succ])
          | ((with_reducible refine at_slot 32 ?_); (refine arm_want (.bool false) 32 rfl (by kernel_rfl) (run_op_eqlD KD.out KE.out _ _ _ rfl rfl rfl false (iff_of_false Bool.false_ne_true HQ.out) _) ?_); try simp only [Act.put, List.setIfInBounds_toArray, List.set_cons_zero, List.set_cons_succ]))
        have lE : y9.heap.size ≤ E := by have := Ee.out; omega
        have bE : Below y9.heap.size y9 v11 := below_only nE.below oE lE nE.below.size
        have rrE : Row v11 E 23 (u8s db) := hEb.congr (allH KE.out)
        have geE : w.heap.size ≤ E := Nat.le_trans bel_10.size lE
        clear hEa hEb nE oE sE Ee lE
        have A_12 : Row v11 A 60 (clc a L) := A_10.old bE
        have B_12 : Row v11 B 60 (clc b M) := B_10.old bE
        have D_12 : Row v11 D 23 (u8s da) := D_10.old bE
        have bel_12 : Below w.heap.size w v11 := below_step bel_10 bel_10.size bE
        clear A_10 B_10 D_10 bel_10 bE
        go_ret
        exact ⟨by rw [HR.out]; rfl, bel_12⟩
    · have HR : Hid (rr = false) := Lib.hid (HM2.out.trans (decide_eq_false fun h => by have := h.2.1; omega))
      clear HM2
      go_enter Tryd.func38, Tryd.ntmps38
      go_wp2_with (first
        | ((with_reducible refine at_slot 4 ?_); (refine arm_box (o := ⟨some 4, _, _, _, _, _⟩) rfl _ _ rfl (clc a L) rfl ?_); intro A v1 Ae hv1 nv1; try simp only [Act.put, List.setIfInBounds_toArray, List.set_cons_zero, List.set_cons_succ])
        | ((with_reducible refine at_slot 5 ?_); (refine arm_box (o := ⟨some 5, _, _, _, _, _⟩) rfl _ _ rfl (clc b M) rfl ?_); intro B v2 Be hv2 nv2; try simp only [Act.put, List.setIfInBounds_toArray, List.set_cons_zero, List.set_cons_succ])
        | ((with_reducible refine at_slot 12 ?_); (refine pause ?_); try simp only [Act.put, List.setIfInBounds_toArray, List.set_cons_zero, List.set_cons_succ]))
      have hbv1 := nv1.below
      have rrv1 : Row v1 A 60 (clc a L) := hv1
      have hbv2 := nv2.below
      have rrv2 : Row v2 B 60 (clc b M) := hv2
      have geA : w.heap.size ≤ A := by have := Ae.out; omega
      clear hv1 nv1 Ae
      have bel_3 : Below w.heap.size w v1 := hbv1
      clear hbv1
      have geB : w.heap.size ≤ B := by have := Be.out; have := bel_3.size; omega
      have ltAB : A < B := by have := Be.out; have := rrv1.lt; omega
      clear hv2 nv2 Be
      have A_4 : Row v2 A 60 (clc a L) := rrv1.old hbv2
      have bel_4 : Below w.heap.size w v2 := below_step bel_3 bel_3.size hbv2
      clear rrv1 bel_3 hbv2
      refine go_on ?_
      go_wp2_with (first
        | ((with_reducible refine at_slot 12 ?_); (refine arm_load (o := ⟨some 12, _, _, _, _, _⟩) rfl _ _ rfl A 0 rfl (clc a L) ((Has.refl _).range A_4) SA.out ?_); try simp only [Act.put, List.setIfInBounds_toArray, List.set_cons_zero, List.set_cons_succ]))
      refine (CA2.out _ (HKW.out _ bel_4)).mono ?_
      rintro e y5 ⟨rfl, hB⟩
      have A_6 : Row y5 A 60 (clc a L) := A_4.old hB
      have B_6 : Row y5 B 60 (clc b M) := rrv2.old hB
      have bel_6 : Below w.heap.size w y5 := below_step bel_4 bel_4.size hB
      clear A_4 rrv2 bel_4 hB
      go_wp2_with (first
        | ((with_reducible refine at_slot 7 ?_); (refine arm_alloc (o := ⟨some 7, _, _, _, _, _⟩) rfl _ rfl (u8s zh) zH ?_); intro D v7a De hDa nD; try simp only [Act.put, List.setIfInBounds_toArray, List.set_cons_zero, List.set_cons_succ])
        | ((with_reducible refine arm_store (o := ⟨none, _, _, _, _, _⟩) rfl _ _ _ rfl D 0 rfl (u8s da) rfl _ _ hDa (fitH KD.out) (u8s_one _) (szH KD.out) ?_); intro v7 hDb oD sD; try simp only [Act.put, List.setIfInBounds_toArray, List.set_cons_zero, List.set_cons_succ])
        | ((with_reducible refine at_slot 18 ?_); (refine pause ?_); try simp only [Act.put, List.setIfInBounds_toArray, List.set_cons_zero, List.set_cons_succ]))
      have lD : y5.heap.size ≤ D := by have := De.out; omega
      have bD : Below y5.heap.size y5 v7 := below_only nD.below oD lD nD.below.size
      have rrD : Row v7 D 23 (u8s da) := hDb.congr (allH KD.out)
      have geD : w.heap.size ≤ D := Nat.le_trans bel_6.size lD
      clear hDa hDb nD oD sD De lD
      have A_8 : Row v7 A 60 (clc a L) := A_6.old bD
      have B_8 : Row v7 B 60 (clc b M) := B_6.old bD
      have bel_8 : Below w.heap.size w v7 := below_step bel_6 bel_6.size bD
      clear A_6 B_6 bel_6 bD
      refine go_on ?_
      go_wp2_with (first
        | ((with_reducible refine at_slot 18 ?_); (refine arm_load (o := ⟨some 18, _, _, _, _, _⟩) rfl _ _ rfl B 0 rfl (clc b M) ((Has.refl _).range B_8) SB.out ?_); try simp only [Act.put, List.setIfInBounds_toArray, List.set_cons_zero, List.set_cons_succ]))
      refine (CB2.out _ (HKW.out _ bel_8)).mono ?_
      rintro e y9 ⟨rfl, hB⟩
      have A_10 : Row y9 A 60 (clc a L) := A_8.old hB
      have B_10 : Row y9 B 60 (clc b M) := B_8.old hB
      have D_10 : Row y9 D 23 (u8s da) := rrD.old hB
      have bel_10 : Below w.heap.size w y9 := below_step bel_8 bel_8.size hB
      clear A_8 B_8 rrD bel_8 hB
      go_wp2_with (first
        | ((with_reducible refine at_slot 9 ?_); (refine arm_alloc (o := ⟨some 9, _, _, _, _, _⟩) rfl _ rfl (u8s zh) zH ?_); intro E v11a Ee hEa nE; try simp only [Act.put, List.setIfInBounds_toArray, List.set_cons_zero, List.set_cons_succ])
        | ((with_reducible refine arm_store (o := ⟨none, _, _, _, _, _⟩) rfl _ _ _ rfl E 0 rfl (u8s db) rfl _ _ hEa (fitH KE.out) (u8s_one _) (szH KE.out) ?_); intro v11 hEb oE sE; try simp only [Act.put, List.setIfInBounds_toArray, List.set_cons_zero, List.set_cons_succ])
        | ((with_reducible refine at_slot 24 ?_); (refine arm_want (.bool true) 24 rfl (by kernel_rfl) (cmp_eql _ _ .i64 (by kernel_rfl) _ _ rfl .i64 (0) (0) rfl rfl true (by decide) _) ?_); try simp only [Act.put, List.setIfInBounds_toArray, List.set_cons_zero, List.set_cons_succ])
        | ((with_reducible refine at_slot 27 ?_); (refine arm_want (.bool false) 27 rfl (by kernel_rfl) (cmp_eql _ _ .i64 (by kernel_rfl) _ _ rfl .i64 (1) (0) rfl rfl false (by decide) _) ?_); try simp only [Act.put, List.setIfInBounds_toArray, List.set_cons_zero, List.set_cons_succ]))
      have lE : y9.heap.size ≤ E := by have := Ee.out; omega
      have bE : Below y9.heap.size y9 v11 := below_only nE.below oE lE nE.below.size
      have rrE : Row v11 E 23 (u8s db) := hEb.congr (allH KE.out)
      have geE : w.heap.size ≤ E := Nat.le_trans bel_10.size lE
      clear hEa hEb nE oE sE Ee lE
      have A_12 : Row v11 A 60 (clc a L) := A_10.old bE
      have B_12 : Row v11 B 60 (clc b M) := B_10.old bE
      have D_12 : Row v11 D 23 (u8s da) := D_10.old bE
      have bel_12 : Below w.heap.size w v11 := below_step bel_10 bel_10.size bE
      clear A_10 B_10 D_10 bel_10 bE
      go_ret
      exact ⟨by rw [HR.out]; rfl, bel_12⟩
  · have HR : Hid (rr = false) := Lib.hid (HM2.out.trans (decide_eq_false fun h => by have := h.1; omega)); clear E2
    clear HM2
    go_enter Tryd.func38, Tryd.ntmps38
    go_wp2_with (first
      | ((with_reducible refine at_slot 4 ?_); (refine arm_box (o := ⟨some 4, _, _, _, _, _⟩) rfl _ _ rfl (clc a L) rfl ?_); intro A v1 Ae hv1 nv1; try simp only [Act.put, List.setIfInBounds_toArray, List.set_cons_zero, List.set_cons_succ])
      | ((with_reducible refine at_slot 5 ?_); (refine arm_box (o := ⟨some 5, _, _, _, _, _⟩) rfl _ _ rfl (clc b M) rfl ?_); intro B v2 Be hv2 nv2; try simp only [Act.put, List.setIfInBounds_toArray, List.set_cons_zero, List.set_cons_succ])
      | ((with_reducible refine at_slot 12 ?_); (refine pause ?_); try simp only [Act.put, List.setIfInBounds_toArray, List.set_cons_zero, List.set_cons_succ]))
    have hbv1 := nv1.below
    have rrv1 : Row v1 A 60 (clc a L) := hv1
    have hbv2 := nv2.below
    have rrv2 : Row v2 B 60 (clc b M) := hv2
    have geA : w.heap.size ≤ A := by have := Ae.out; omega
    clear hv1 nv1 Ae
    have bel_3 : Below w.heap.size w v1 := hbv1
    clear hbv1
    have geB : w.heap.size ≤ B := by have := Be.out; have := bel_3.size; omega
    have ltAB : A < B := by have := Be.out; have := rrv1.lt; omega
    clear hv2 nv2 Be
    have A_4 : Row v2 A 60 (clc a L) := rrv1.old hbv2
    have bel_4 : Below w.heap.size w v2 := below_step bel_3 bel_3.size hbv2
    clear rrv1 bel_3 hbv2
    refine go_on ?_
    go_wp2_with (first
      | ((with_reducible refine at_slot 12 ?_); (refine arm_load (o := ⟨some 12, _, _, _, _, _⟩) rfl _ _ rfl A 0 rfl (clc a L) ((Has.refl _).range A_4) SA.out ?_); try simp only [Act.put, List.setIfInBounds_toArray, List.set_cons_zero, List.set_cons_succ]))
    refine (CA2.out _ (HKW.out _ bel_4)).mono ?_
    rintro e y5 ⟨rfl, hB⟩
    have A_6 : Row y5 A 60 (clc a L) := A_4.old hB
    have B_6 : Row y5 B 60 (clc b M) := rrv2.old hB
    have bel_6 : Below w.heap.size w y5 := below_step bel_4 bel_4.size hB
    clear A_4 rrv2 bel_4 hB
    go_wp2_with (first
      | ((with_reducible refine at_slot 7 ?_); (refine arm_alloc (o := ⟨some 7, _, _, _, _, _⟩) rfl _ rfl (u8s zh) zH ?_); intro D v7a De hDa nD; try simp only [Act.put, List.setIfInBounds_toArray, List.set_cons_zero, List.set_cons_succ])
      | ((with_reducible refine arm_store (o := ⟨none, _, _, _, _, _⟩) rfl _ _ _ rfl D 0 rfl (u8s da) rfl _ _ hDa (fitH KD.out) (u8s_one _) (szH KD.out) ?_); intro v7 hDb oD sD; try simp only [Act.put, List.setIfInBounds_toArray, List.set_cons_zero, List.set_cons_succ])
      | ((with_reducible refine at_slot 18 ?_); (refine pause ?_); try simp only [Act.put, List.setIfInBounds_toArray, List.set_cons_zero, List.set_cons_succ]))
    have lD : y5.heap.size ≤ D := by have := De.out; omega
    have bD : Below y5.heap.size y5 v7 := below_only nD.below oD lD nD.below.size
    have rrD : Row v7 D 23 (u8s da) := hDb.congr (allH KD.out)
    have geD : w.heap.size ≤ D := Nat.le_trans bel_6.size lD
    clear hDa hDb nD oD sD De lD
    have A_8 : Row v7 A 60 (clc a L) := A_6.old bD
    have B_8 : Row v7 B 60 (clc b M) := B_6.old bD
    have bel_8 : Below w.heap.size w v7 := below_step bel_6 bel_6.size bD
    clear A_6 B_6 bel_6 bD
    refine go_on ?_
    go_wp2_with (first
      | ((with_reducible refine at_slot 18 ?_); (refine arm_load (o := ⟨some 18, _, _, _, _, _⟩) rfl _ _ rfl B 0 rfl (clc b M) ((Has.refl _).range B_8) SB.out ?_); try simp only [Act.put, List.setIfInBounds_toArray, List.set_cons_zero, List.set_cons_succ]))
    refine (CB2.out _ (HKW.out _ bel_8)).mono ?_
    rintro e y9 ⟨rfl, hB⟩
    have A_10 : Row y9 A 60 (clc a L) := A_8.old hB
    have B_10 : Row y9 B 60 (clc b M) := B_8.old hB
    have D_10 : Row y9 D 23 (u8s da) := rrD.old hB
    have bel_10 : Below w.heap.size w y9 := below_step bel_8 bel_8.size hB
    clear A_8 B_8 rrD bel_8 hB
    go_wp2_with (first
      | ((with_reducible refine at_slot 9 ?_); (refine arm_alloc (o := ⟨some 9, _, _, _, _, _⟩) rfl _ rfl (u8s zh) zH ?_); intro E v11a Ee hEa nE; try simp only [Act.put, List.setIfInBounds_toArray, List.set_cons_zero, List.set_cons_succ])
      | ((with_reducible refine arm_store (o := ⟨none, _, _, _, _, _⟩) rfl _ _ _ rfl E 0 rfl (u8s db) rfl _ _ hEa (fitH KE.out) (u8s_one _) (szH KE.out) ?_); intro v11 hEb oE sE; try simp only [Act.put, List.setIfInBounds_toArray, List.set_cons_zero, List.set_cons_succ])
      | ((with_reducible refine at_slot 24 ?_); (refine arm_want (.bool false) 24 rfl (by kernel_rfl) (cmp_eql _ _ .i64 (by kernel_rfl) _ _ rfl .i64 (1) (0) rfl rfl false (by decide) _) ?_); try simp only [Act.put, List.setIfInBounds_toArray, List.set_cons_zero, List.set_cons_succ]))
    have lE : y9.heap.size ≤ E := by have := Ee.out; omega
    have bE : Below y9.heap.size y9 v11 := below_only nE.below oE lE nE.below.size
    have rrE : Row v11 E 23 (u8s db) := hEb.congr (allH KE.out)
    have geE : w.heap.size ≤ E := Nat.le_trans bel_10.size lE
    clear hEa hEb nE oE sE Ee lE
    have A_12 : Row v11 A 60 (clc a L) := A_10.old bE
    have B_12 : Row v11 B 60 (clc b M) := B_10.old bE
    have D_12 : Row v11 D 23 (u8s da) := D_10.old bE
    have bel_12 : Below w.heap.size w v11 := below_step bel_10 bel_10.size bE
    clear A_10 B_10 D_10 bel_10 bE
    go_ret
    exact ⟨by rw [HR.out]; rfl, bel_12⟩
set_option maxHeartbeats 4000000 in
set_option maxRecDepth 100000 in
theorem check_any (root : List Nat) (p : Int) (a : Acct) (L : List (List Nat)) (w : World) (kr : H32 root) (ka : a.Ok) (h4 : P4 L) (hk : w.rangeAt 1 0 (u32s ks)) :
    Calls Tryd.prog 15 #[.agg (u8s root).toArray, .int .i64 p, .agg (acs a).toArray, .agg (dgC L).toArray] w fun e w' => e = .returned (.int .i64 (chkE root p a L : Int)) ∧ Below w.heap.size w w' := by
  have hk1 : 1 < w.heap.size := range_lt hk (by simp [u32s, ks])
  have HKW : Hid (∀ w', Below w.heap.size w w' → w'.rangeAt 1 0 (u32s ks)) := Lib.hid fun w' hb => range_block hk (hb.block _ hk1)
  have KA := Lib.hid (sz_acc a); have SP := Lib.hid (sz_path h4.ok h4.len)
  have BC := Lib.hid (built_claim a h4)
  have KR := Lib.hid kr
  have KD := Lib.hid (endD_ok p a L)
  have E1 := endE_01 p a
  obtain ⟨da, hda⟩ : ∃ d, d = endD p a L := ⟨_, rfl⟩
  obtain ⟨ea, hea⟩ : ∃ e, e = endE p a := ⟨_, rfl⟩
  have CA : Hid (∀ w0, w0.rangeAt 1 0 (u32s ks) → Calls Tryd.prog 32 #[.agg (clc a L).toArray, .int .i64 p] w0 fun e w' => e = .returned (.tuple #[.agg (u8s da).toArray, .int .i64 (ea : Int)]) ∧ Below w0.heap.size w0 w') := Lib.hid fun w0 h => (end_any p a L w0 ka h4 h).mono fun e w' h => ⟨by rw [hda, hea]; exact h.ret, h.bel⟩
  have HM2 : Hid (chkE root p a L = if ea = 0 then (if da = root then 0 else 13) else 1) := Lib.hid (by rw [hda, hea]; rfl)
  rw [← hda] at KD
  rw [← hea] at E1
  clear hk hk1 kr ka h4 hda hea
  generalize chkE root p a L = rr at HM2 ⊢
  rcases E1 with rfl | rfl
  · by_cases hd : da = root
    · have HR : Hid (rr = 0) := Lib.hid (HM2.out.trans (by rw [if_pos rfl, if_pos hd]))
      have HQ := Lib.hid hd
      clear HM2 hd
      go_enter Tryd.func15, Tryd.ntmps15
      go_wp2_with (first
        | ((with_reducible refine at_slot 4 ?_); (refine arm_box (o := ⟨some 4, _, _, _, _, _⟩) rfl _ _ rfl (u8s root) rfl ?_); intro Q v1 Qe hv1 nv1; try simp only [Act.put, List.setIfInBounds_toArray, List.set_cons_zero, List.set_cons_succ])
        | ((with_reducible refine at_slot 6 ?_); (refine arm_box (o := ⟨some 6, _, _, _, _, _⟩) rfl _ _ rfl (acs a) rfl ?_); intro A v2 Ae hv2 nv2; try simp only [Act.put, List.setIfInBounds_toArray, List.set_cons_zero, List.set_cons_succ])
        | ((with_reducible refine at_slot 7 ?_); (refine arm_box (o := ⟨some 7, _, _, _, _, _⟩) rfl _ _ rfl (dgC L) rfl ?_); intro Y v3 Ye hv3 nv3; try simp only [Act.put, List.setIfInBounds_toArray, List.set_cons_zero, List.set_cons_succ])
        | ((with_reducible refine at_slot 12 ?_); (refine pause ?_); try simp only [Act.put, List.setIfInBounds_toArray, List.set_cons_zero, List.set_cons_succ]))
      have hbv1 := nv1.below
      have rrv1 : Row v1 Q 23 (u8s root) := hv1
      have hbv2 := nv2.below
      have rrv2 : Row v2 A 27 (acs a) := hv2
      have hbv3 := nv3.below
      have rrv3 : Row v3 Y 29 (dgC L) := hv3
      have geQ : w.heap.size ≤ Q := by have := Qe.out; omega
      clear hv1 nv1 Qe
      have bel_4 : Below w.heap.size w v1 := hbv1
      clear hbv1
      have geA : w.heap.size ≤ A := by have := Ae.out; have := bel_4.size; omega
      have ltQA : Q < A := by have := Ae.out; have := rrv1.lt; omega
      clear hv2 nv2 Ae
      have Q_5 : Row v2 Q 23 (u8s root) := rrv1.old hbv2
      have bel_5 : Below w.heap.size w v2 := below_step bel_4 bel_4.size hbv2
      clear rrv1 bel_4 hbv2
      have geY : w.heap.size ≤ Y := by have := Ye.out; have := bel_5.size; omega
      have ltAY : A < Y := by have := Ye.out; have := rrv2.lt; omega
      clear hv3 nv3 Ye
      have Q_6 : Row v3 Q 23 (u8s root) := Q_5.old hbv3
      have A_6 : Row v3 A 27 (acs a) := rrv2.old hbv3
      have bel_6 : Below w.heap.size w v3 := below_step bel_5 bel_5.size hbv3
      clear Q_5 rrv2 bel_5 hbv3
      refine go_on ?_
      go_wp2_with (first
        | ((with_reducible refine at_slot 12 ?_); (refine arm_load (o := ⟨some 12, _, _, _, _, _⟩) rfl _ _ rfl A 0 rfl (acs a) ((Has.refl _).range A_6) KA.out ?_); try simp only [Act.put, List.setIfInBounds_toArray, List.set_cons_zero, List.set_cons_succ])
        | ((with_reducible refine at_slot 13 ?_); (refine arm_load (o := ⟨some 13, _, _, _, _, _⟩) rfl _ _ rfl Y 0 rfl (dgC L) ((Has.refl _).range rrv3) SP.out ?_); try simp only [Act.put, List.setIfInBounds_toArray, List.set_cons_zero, List.set_cons_succ])
        | ((with_reducible refine at_slot 14 ?_); (refine arm_want (.agg (clc a L).toArray) 14 rfl (by kernel_rfl) (run_op_build _ _ rfl _ (by simp only [List.map_toArray, List.map_cons, List.map_nil]; exact BC.out) _) ?_); try simp only [Act.put, List.setIfInBounds_toArray, List.set_cons_zero, List.set_cons_succ]))
      refine (CA.out _ (HKW.out _ bel_6)).mono ?_
      rintro e y7 ⟨rfl, hB⟩
      have Q_8 : Row y7 Q 23 (u8s root) := Q_6.old hB
      have A_8 : Row y7 A 27 (acs a) := A_6.old hB
      have Y_8 : Row y7 Y 29 (dgC L) := rrv3.old hB
      have bel_8 : Below w.heap.size w y7 := below_step bel_6 bel_6.size hB
      clear Q_6 A_6 rrv3 bel_6 hB
      go_wp2_with (first
        | ((with_reducible refine at_slot 9 ?_); (refine arm_alloc (o := ⟨some 9, _, _, _, _, _⟩) rfl _ rfl (u8s zh) zH ?_); intro D v9a De hDa nD; try simp only [Act.put, List.setIfInBounds_toArray, List.set_cons_zero, List.set_cons_succ])
        | ((with_reducible refine arm_store (o := ⟨none, _, _, _, _, _⟩) rfl _ _ _ rfl D 0 rfl (u8s da) rfl _ _ hDa (fitH KD.out) (u8s_one _) (szH KD.out) ?_); intro v9 hDb oD sD; try simp only [Act.put, List.setIfInBounds_toArray, List.set_cons_zero, List.set_cons_succ])
        | ((with_reducible refine at_slot 20 ?_); (refine arm_want (.bool false) 20 rfl (by kernel_rfl) (cmp_neq _ _ .i64 (by kernel_rfl) _ _ rfl .i64 (0) (0) rfl rfl false (by decide) _) ?_); try simp only [Act.put, List.setIfInBounds_toArray, List.set_cons_zero, List.set_cons_succ])
        | ((with_reducible refine at_slot 22 ?_); (refine arm_load (o := ⟨some 22, _, _, _, _, _⟩) rfl _ _ rfl D 0 rfl (u8s da) ((Has.refl _).range (hDb.congr (allH KD.out))) (szH KD.out) ?_); try simp only [Act.put, List.setIfInBounds_toArray, List.set_cons_zero, List.set_cons_succ])
        | ((with_reducible refine at_slot 23 ?_); (refine arm_load (o := ⟨some 23, _, _, _, _, _⟩) rfl _ _ rfl Q 0 rfl (u8s root) ((Has.refl _).range ((Q_8.old nD.below).only oD (by have := De.out; have := Q_8.lt; omega))) (szH KR.out) ?_); try simp only [Act.put, List.setIfInBounds_toArray, List.set_cons_zero, List.set_cons_succ])
        | ((with_reducible refine at_slot 24 ?_); (refine arm_want (.bool false) 24 rfl (by kernel_rfl) (run_op_neqD KD.out KR.out _ _ _ rfl rfl rfl true (iff_of_true rfl HQ.out) _) ?_); try simp only [Act.put, List.setIfInBounds_toArray, List.set_cons_zero, List.set_cons_succ]))
      have lD : y7.heap.size ≤ D := by have := De.out; omega
      have bD : Below y7.heap.size y7 v9 := below_only nD.below oD lD nD.below.size
      have rrD : Row v9 D 23 (u8s da) := hDb.congr (allH KD.out)
      have geD : w.heap.size ≤ D := Nat.le_trans bel_8.size lD
      clear hDa hDb nD oD sD De lD
      have Q_10 : Row v9 Q 23 (u8s root) := Q_8.old bD
      have A_10 : Row v9 A 27 (acs a) := A_8.old bD
      have Y_10 : Row v9 Y 29 (dgC L) := Y_8.old bD
      have bel_10 : Below w.heap.size w v9 := below_step bel_8 bel_8.size bD
      clear Q_8 A_8 Y_8 bel_8 bD
      go_ret
      exact ⟨by rw [HR.out]; rfl, bel_10⟩
    · have HR : Hid (rr = 13) := Lib.hid (HM2.out.trans (by rw [if_pos rfl, if_neg hd]))
      have HQ := Lib.hid hd
      clear HM2 hd
      go_enter Tryd.func15, Tryd.ntmps15
      go_wp2_with (first
        | ((with_reducible refine at_slot 4 ?_); (refine arm_box (o := ⟨some 4, _, _, _, _, _⟩) rfl _ _ rfl (u8s root) rfl ?_); intro Q v1 Qe hv1 nv1; try simp only [Act.put, List.setIfInBounds_toArray, List.set_cons_zero, List.set_cons_succ])
        | ((with_reducible refine at_slot 6 ?_); (refine arm_box (o := ⟨some 6, _, _, _, _, _⟩) rfl _ _ rfl (acs a) rfl ?_); intro A v2 Ae hv2 nv2; try simp only [Act.put, List.setIfInBounds_toArray, List.set_cons_zero, List.set_cons_succ])
        | ((with_reducible refine at_slot 7 ?_); (refine arm_box (o := ⟨some 7, _, _, _, _, _⟩) rfl _ _ rfl (dgC L) rfl ?_); intro Y v3 Ye hv3 nv3; try simp only [Act.put, List.setIfInBounds_toArray, List.set_cons_zero, List.set_cons_succ])
        | ((with_reducible refine at_slot 12 ?_); (refine pause ?_); try simp only [Act.put, List.setIfInBounds_toArray, List.set_cons_zero, List.set_cons_succ]))
      have hbv1 := nv1.below
      have rrv1 : Row v1 Q 23 (u8s root) := hv1
      have hbv2 := nv2.below
      have rrv2 : Row v2 A 27 (acs a) := hv2
      have hbv3 := nv3.below
      have rrv3 : Row v3 Y 29 (dgC L) := hv3
      have geQ : w.heap.size ≤ Q := by have := Qe.out; omega
      clear hv1 nv1 Qe
      have bel_4 : Below w.heap.size w v1 := hbv1
      clear hbv1
      have geA : w.heap.size ≤ A := by have := Ae.out; have := bel_4.size; omega
      have ltQA : Q < A := by have := Ae.out; have := rrv1.lt; omega
      clear hv2 nv2 Ae
      have Q_5 : Row v2 Q 23 (u8s root) := rrv1.old hbv2
      have bel_5 : Below w.heap.size w v2 := below_step bel_4 bel_4.size hbv2
      clear rrv1 bel_4 hbv2
      have geY : w.heap.size ≤ Y := by have := Ye.out; have := bel_5.size; omega
      have ltAY : A < Y := by have := Ye.out; have := rrv2.lt; omega
      clear hv3 nv3 Ye
      have Q_6 : Row v3 Q 23 (u8s root) := Q_5.old hbv3
      have A_6 : Row v3 A 27 (acs a) := rrv2.old hbv3
      have bel_6 : Below w.heap.size w v3 := below_step bel_5 bel_5.size hbv3
      clear Q_5 rrv2 bel_5 hbv3
      refine go_on ?_
      go_wp2_with (first
        | ((with_reducible refine at_slot 12 ?_); (refine arm_load (o := ⟨some 12, _, _, _, _, _⟩) rfl _ _ rfl A 0 rfl (acs a) ((Has.refl _).range A_6) KA.out ?_); try simp only [Act.put, List.setIfInBounds_toArray, List.set_cons_zero, List.set_cons_succ])
        | ((with_reducible refine at_slot 13 ?_); (refine arm_load (o := ⟨some 13, _, _, _, _, _⟩) rfl _ _ rfl Y 0 rfl (dgC L) ((Has.refl _).range rrv3) SP.out ?_); try simp only [Act.put, List.setIfInBounds_toArray, List.set_cons_zero, List.set_cons_succ])
        | ((with_reducible refine at_slot 14 ?_); (refine arm_want (.agg (clc a L).toArray) 14 rfl (by kernel_rfl) (run_op_build _ _ rfl _ (by simp only [List.map_toArray, List.map_cons, List.map_nil]; exact BC.out) _) ?_); try simp only [Act.put, List.setIfInBounds_toArray, List.set_cons_zero, List.set_cons_succ]))
      refine (CA.out _ (HKW.out _ bel_6)).mono ?_
      rintro e y7 ⟨rfl, hB⟩
      have Q_8 : Row y7 Q 23 (u8s root) := Q_6.old hB
      have A_8 : Row y7 A 27 (acs a) := A_6.old hB
      have Y_8 : Row y7 Y 29 (dgC L) := rrv3.old hB
      have bel_8 : Below w.heap.size w y7 := below_step bel_6 bel_6.size hB
      clear Q_6 A_6 rrv3 bel_6 hB
      go_wp2_with (first
        | ((with_reducible refine at_slot 9 ?_); (refine arm_alloc (o := ⟨some 9, _, _, _, _, _⟩) rfl _ rfl (u8s zh) zH ?_); intro D v9a De hDa nD; try simp only [Act.put, List.setIfInBounds_toArray, List.set_cons_zero, List.set_cons_succ])
        | ((with_reducible refine arm_store (o := ⟨none, _, _, _, _, _⟩) rfl _ _ _ rfl D 0 rfl (u8s da) rfl _ _ hDa (fitH KD.out) (u8s_one _) (szH KD.out) ?_); intro v9 hDb oD sD; try simp only [Act.put, List.setIfInBounds_toArray, List.set_cons_zero, List.set_cons_succ])
        | ((with_reducible refine at_slot 20 ?_); (refine arm_want (.bool false) 20 rfl (by kernel_rfl) (cmp_neq _ _ .i64 (by kernel_rfl) _ _ rfl .i64 (0) (0) rfl rfl false (by decide) _) ?_); try simp only [Act.put, List.setIfInBounds_toArray, List.set_cons_zero, List.set_cons_succ])
        | ((with_reducible refine at_slot 22 ?_); (refine arm_load (o := ⟨some 22, _, _, _, _, _⟩) rfl _ _ rfl D 0 rfl (u8s da) ((Has.refl _).range (hDb.congr (allH KD.out))) (szH KD.out) ?_); try simp only [Act.put, List.setIfInBounds_toArray, List.set_cons_zero, List.set_cons_succ])
        | ((with_reducible refine at_slot 23 ?_); (refine arm_load (o := ⟨some 23, _, _, _, _, _⟩) rfl _ _ rfl Q 0 rfl (u8s root) ((Has.refl _).range ((Q_8.old nD.below).only oD (by have := De.out; have := Q_8.lt; omega))) (szH KR.out) ?_); try simp only [Act.put, List.setIfInBounds_toArray, List.set_cons_zero, List.set_cons_succ])
        | ((with_reducible refine at_slot 24 ?_); (refine arm_want (.bool true) 24 rfl (by kernel_rfl) (run_op_neqD KD.out KR.out _ _ _ rfl rfl rfl false (iff_of_false Bool.false_ne_true HQ.out) _) ?_); try simp only [Act.put, List.setIfInBounds_toArray, List.set_cons_zero, List.set_cons_succ]))
      have lD : y7.heap.size ≤ D := by have := De.out; omega
      have bD : Below y7.heap.size y7 v9 := below_only nD.below oD lD nD.below.size
      have rrD : Row v9 D 23 (u8s da) := hDb.congr (allH KD.out)
      have geD : w.heap.size ≤ D := Nat.le_trans bel_8.size lD
      clear hDa hDb nD oD sD De lD
      have Q_10 : Row v9 Q 23 (u8s root) := Q_8.old bD
      have A_10 : Row v9 A 27 (acs a) := A_8.old bD
      have Y_10 : Row v9 Y 29 (dgC L) := Y_8.old bD
      have bel_10 : Below w.heap.size w v9 := below_step bel_8 bel_8.size bD
      clear Q_8 A_8 Y_8 bel_8 bD
      go_ret
      exact ⟨by rw [HR.out]; rfl, bel_10⟩
  · have HR : Hid (rr = 1) := Lib.hid (HM2.out.trans (if_neg (by omega)))
    clear HM2
    go_enter Tryd.func15, Tryd.ntmps15
    go_wp2_with (first
      | ((with_reducible refine at_slot 4 ?_); (refine arm_box (o := ⟨some 4, _, _, _, _, _⟩) rfl _ _ rfl (u8s root) rfl ?_); intro Q v1 Qe hv1 nv1; try simp only [Act.put, List.setIfInBounds_toArray, List.set_cons_zero, List.set_cons_succ])
      | ((with_reducible refine at_slot 6 ?_); (refine arm_box (o := ⟨some 6, _, _, _, _, _⟩) rfl _ _ rfl (acs a) rfl ?_); intro A v2 Ae hv2 nv2; try simp only [Act.put, List.setIfInBounds_toArray, List.set_cons_zero, List.set_cons_succ])
      | ((with_reducible refine at_slot 7 ?_); (refine arm_box (o := ⟨some 7, _, _, _, _, _⟩) rfl _ _ rfl (dgC L) rfl ?_); intro Y v3 Ye hv3 nv3; try simp only [Act.put, List.setIfInBounds_toArray, List.set_cons_zero, List.set_cons_succ])
      | ((with_reducible refine at_slot 12 ?_); (refine pause ?_); try simp only [Act.put, List.setIfInBounds_toArray, List.set_cons_zero, List.set_cons_succ]))
    have hbv1 := nv1.below
    have rrv1 : Row v1 Q 23 (u8s root) := hv1
    have hbv2 := nv2.below
    have rrv2 : Row v2 A 27 (acs a) := hv2
    have hbv3 := nv3.below
    have rrv3 : Row v3 Y 29 (dgC L) := hv3
    have geQ : w.heap.size ≤ Q := by have := Qe.out; omega
    clear hv1 nv1 Qe
    have bel_4 : Below w.heap.size w v1 := hbv1
    clear hbv1
    have geA : w.heap.size ≤ A := by have := Ae.out; have := bel_4.size; omega
    have ltQA : Q < A := by have := Ae.out; have := rrv1.lt; omega
    clear hv2 nv2 Ae
    have Q_5 : Row v2 Q 23 (u8s root) := rrv1.old hbv2
    have bel_5 : Below w.heap.size w v2 := below_step bel_4 bel_4.size hbv2
    clear rrv1 bel_4 hbv2
    have geY : w.heap.size ≤ Y := by have := Ye.out; have := bel_5.size; omega
    have ltAY : A < Y := by have := Ye.out; have := rrv2.lt; omega
    clear hv3 nv3 Ye
    have Q_6 : Row v3 Q 23 (u8s root) := Q_5.old hbv3
    have A_6 : Row v3 A 27 (acs a) := rrv2.old hbv3
    have bel_6 : Below w.heap.size w v3 := below_step bel_5 bel_5.size hbv3
    clear Q_5 rrv2 bel_5 hbv3
    refine go_on ?_
    go_wp2_with (first
      | ((with_reducible refine at_slot 12 ?_); (refine arm_load (o := ⟨some 12, _, _, _, _, _⟩) rfl _ _ rfl A 0 rfl (acs a) ((Has.refl _).range A_6) KA.out ?_); try simp only [Act.put, List.setIfInBounds_toArray, List.set_cons_zero, List.set_cons_succ])
      | ((with_reducible refine at_slot 13 ?_); (refine arm_load (o := ⟨some 13, _, _, _, _, _⟩) rfl _ _ rfl Y 0 rfl (dgC L) ((Has.refl _).range rrv3) SP.out ?_); try simp only [Act.put, List.setIfInBounds_toArray, List.set_cons_zero, List.set_cons_succ])
      | ((with_reducible refine at_slot 14 ?_); (refine arm_want (.agg (clc a L).toArray) 14 rfl (by kernel_rfl) (run_op_build _ _ rfl _ (by simp only [List.map_toArray, List.map_cons, List.map_nil]; exact BC.out) _) ?_); try simp only [Act.put, List.setIfInBounds_toArray, List.set_cons_zero, List.set_cons_succ]))
    refine (CA.out _ (HKW.out _ bel_6)).mono ?_
    rintro e y7 ⟨rfl, hB⟩
    have Q_8 : Row y7 Q 23 (u8s root) := Q_6.old hB
    have A_8 : Row y7 A 27 (acs a) := A_6.old hB
    have Y_8 : Row y7 Y 29 (dgC L) := rrv3.old hB
    have bel_8 : Below w.heap.size w y7 := below_step bel_6 bel_6.size hB
    clear Q_6 A_6 rrv3 bel_6 hB
    go_wp2_with (first
      | ((with_reducible refine at_slot 9 ?_); (refine arm_alloc (o := ⟨some 9, _, _, _, _, _⟩) rfl _ rfl (u8s zh) zH ?_); intro D v9a De hDa nD; try simp only [Act.put, List.setIfInBounds_toArray, List.set_cons_zero, List.set_cons_succ])
      | ((with_reducible refine arm_store (o := ⟨none, _, _, _, _, _⟩) rfl _ _ _ rfl D 0 rfl (u8s da) rfl _ _ hDa (fitH KD.out) (u8s_one _) (szH KD.out) ?_); intro v9 hDb oD sD; try simp only [Act.put, List.setIfInBounds_toArray, List.set_cons_zero, List.set_cons_succ])
      | ((with_reducible refine at_slot 20 ?_); (refine arm_want (.bool true) 20 rfl (by kernel_rfl) (cmp_neq _ _ .i64 (by kernel_rfl) _ _ rfl .i64 (1) (0) rfl rfl true (by decide) _) ?_); try simp only [Act.put, List.setIfInBounds_toArray, List.set_cons_zero, List.set_cons_succ]))
    have lD : y7.heap.size ≤ D := by have := De.out; omega
    have bD : Below y7.heap.size y7 v9 := below_only nD.below oD lD nD.below.size
    have rrD : Row v9 D 23 (u8s da) := hDb.congr (allH KD.out)
    have geD : w.heap.size ≤ D := Nat.le_trans bel_8.size lD
    clear hDa hDb nD oD sD De lD
    have Q_10 : Row v9 Q 23 (u8s root) := Q_8.old bD
    have A_10 : Row v9 A 27 (acs a) := A_8.old bD
    have Y_10 : Row v9 Y 29 (dgC L) := Y_8.old bD
    have bel_10 : Below w.heap.size w v9 := below_step bel_8 bel_8.size bD
    clear Q_8 A_8 Y_8 bel_8 bD
    go_ret
    exact ⟨by rw [HR.out]; rfl, bel_10⟩
end Go.Proofs.YtaihhbiocolhcaaDoor.Pf
