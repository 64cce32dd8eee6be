/-
  The walk of layer 16's statement ProofTells, out of the contracts: it returns true, and changes nothing that was there. Over this seat's translation.
-/
import Derived.Test.YtaihhbiocolhcaaDoorPrfAwake
namespace Go.Proofs.YtaihhbiocolhcaaDoor.Pf
open Go.ChangeShapes Go.WideShapes Go.ChangeAt Go.RowKit Go.Proofs.YtaihhbiocolhcaaDoor.Mem Go.Proofs.YtaihhbiocolhcaaDoor.Bt Go.Proofs.YtaihhbiocolhcaaDoor.Wi Go.Proofs.YtaihhbiocolhcaaDoor.Sha Go.Proofs.YtaihhbiocolhcaaDoor.Ac Go.Proofs.YtaihhbiocolhcaaDoor.Tr
open Go.Proofs.YtaihhbiocolhcaaDoor.Tg (bytesOf bytesOf_length bytesOf_lt bytesOf_inj Rd Rd.below Parts parts_one arm_one tagD tagD_len tagOf_any refTag_any total image image_inj image_length)
open Go.Proofs.YtaihhbiocolhcaaDoor.Ep (H32 zh zh_ok Has h_len szH zH fitH allH came_at one_app)
set_option linter.unusedVariables false
set_option linter.unusedSimpArgs false

set_option maxHeartbeats 4000000 in
set_option maxRecDepth 100000 in
theorem proofTells_any (root leaf : List Nat) (p : Int) (a : Acct) (L : List (List Nat)) (b : List Nat) (P : Option Addr) (cap : Nat) (w : World) (kr : H32 root) (kl : H32 leaf) (ka : a.Ok) (h4 : P4 L) (hc : Came w P cap b) (hk : w.rangeAt 1 0 (u32s ks)) (hk2 : w.rangeAt 0 0 (u32s ks)) :
    Calls Tryd.prog 3 #[.agg (u8s root).toArray, .agg (u8s leaf).toArray, .int .i64 p, .agg (acs a).toArray, .agg (dgC L).toArray, .slice P b.length cap] w fun e w' => e = .returned (.bool true) ∧ Below w.heap.size w w' := by
  have hk1 : 1 < w.heap.size := range_lt hk (by simp [u32s, ks])
  have HKW : Hid (∀ w', Below w.heap.size w w' → w'.rangeAt 1 0 (u32s ks)) := Lib.hid fun w' hb => range_block hk (hb.block _ hk1)
  have hk3 : 0 < w.heap.size := range_lt hk2 (by simp [u32s, ks])
  have HKW2 : Hid (∀ w', Below w.heap.size w w' → w'.rangeAt 0 0 (u32s ks)) := Lib.hid fun w' hb => range_block hk2 (hb.block _ hk3)
  have CA := Lib.hid (fun w0 h => awake16_any w0 h)
  have AX := Lib.hid (sz_acc a); have SP := Lib.hid (sz_path h4.ok h4.len); have KR := Lib.hid kr; have KF := Lib.hid kl
  have HNM : Hid ((acs a)[0]? = some (.string a.nm)) := Lib.hid rfl
  have HCM : Hid (∀ w', Below w.heap.size w w' → Came w' P cap b) := Lib.hid fun w' hb => hc.below hb
  have KU := Lib.hid (leadI_ok (p := p) (L := L) kl)
  have K4 := Lib.hid (rdP_p4 hc.lt_)
  obtain ⟨u, hu⟩ : ∃ d, d = leadI p L leaf := ⟨_, rfl⟩
  obtain ⟨eu, heu⟩ : ∃ d, d = pathE p := ⟨_, rfl⟩
  obtain ⟨pp, hpp⟩ : ∃ d, d = rdP b := ⟨_, rfl⟩
  obtain ⟨ep, hep⟩ : ∃ d, d = rdE b := ⟨_, rfl⟩
  obtain ⟨ck, hck⟩ : ∃ d, d = chkE root p a L := ⟨_, rfl⟩
  have CL1 : Hid (∀ w0, w0.rangeAt 1 0 (u32s ks) → Calls Tryd.prog 8 #[.int .i64 p, .agg (u8s leaf).toArray, .agg (dgC L).toArray] w0 fun e w' => e = .returned (.tuple #[.agg (u8s u).toArray, .int .i64 (eu : Int)]) ∧ Below w0.heap.size w0 w') := Lib.hid fun w0 h => (lead_any p L leaf w0 h4 kl h).mono fun e w' h => ⟨by rw [hu, heu]; exact h.ret, h.bel⟩
  have CL2 : Hid (∀ w0, w0.rangeAt 0 0 (u32s ks) → Calls Tryd.prog 9 #[.int .i64 p, .agg (u8s leaf).toArray, .agg (dgC L).toArray] w0 fun e w' => e = .returned (.tuple #[.agg (u8s u).toArray, .int .i64 (eu : Int)]) ∧ Below w0.heap.size w0 w') := Lib.hid fun w0 h => (rlead_any p L leaf w0 h4 kl h).mono fun e w' h => ⟨by rw [hu, heu]; exact h.ret, h.bel⟩
  have CR1 : Hid (∀ w0, Came w0 P cap b → Calls Tryd.prog 10 #[.slice P b.length cap] w0 fun e w' => e = .returned (.tuple #[.agg (dgC pp).toArray, .int .i64 (ep : Int)]) ∧ Below w0.heap.size w0 w') := Lib.hid fun w0 h => (read_any b P cap w0 h).mono fun e w' h => ⟨by rw [hpp, hep]; exact h.ret, h.bel⟩
  have CR2 : Hid (∀ w0, Came w0 P cap b → Calls Tryd.prog 11 #[.slice P b.length cap] w0 fun e w' => e = .returned (.tuple #[.agg (dgC pp).toArray, .int .i64 (ep : Int)]) ∧ Below w0.heap.size w0 w') := Lib.hid fun w0 h => (rread16_any b P cap w0 h).mono fun e w' h => ⟨by rw [hpp, hep]; exact h.ret, h.bel⟩
  have CB1 := Lib.hid (fun w0 => bytes_any L w0 h4); have CB2 := Lib.hid (fun w0 => rbytes16_any L w0 h4)
  have CSM : Hid (∀ q c r d w0, Came w0 q c (pathB L) → Came w0 r d (pathB L) → Calls Tryd.prog 12 #[.slice q 128 c, .slice r 128 d] w0 fun e w' => e = .returned (.bool true) ∧ Below w0.heap.size w0 w') := Lib.hid fun q c r d w0 h1 h2 => by
    have h := Tg.same_any (pathB L) (pathB L) q r c d w0 h1.rd h2.rd (by rw [h4.bytes_len]; omega) (by rw [h4.bytes_len]; omega)
    rw [decide_eq_true rfl, h4.bytes_len] at h
    exact h
  have CK1 : Hid (∀ w0, w0.rangeAt 1 0 (u32s ks) → Calls Tryd.prog 15 #[.agg (u8s root).toArray, .int .i64 p, .agg (acs a).toArray, .agg (dgC L).toArray] w0 fun e w' => e = .returned (.int .i64 (ck : Int)) ∧ Below w0.heap.size w0 w') := Lib.hid fun w0 h => (check_any root p a L w0 kr ka h4 h).mono fun e w' h => ⟨by rw [hck]; exact h.1, h.2⟩
  have CK2 : Hid (∀ w0, w0.rangeAt 0 0 (u32s ks) → Calls Tryd.prog 16 #[.agg (u8s root).toArray, .int .i64 p, .agg (acs a).toArray, .agg (dgC L).toArray] w0 fun e w' => e = .returned (.int .i64 (ck : Int)) ∧ Below w0.heap.size w0 w') := Lib.hid fun w0 h => (rcheck_any root p a L w0 kr ka h4 h).mono fun e w' h => ⟨by rw [hck]; exact h.1, h.2⟩
  have COW := Lib.hid (fun w0 => own16_any a w0)
  rw [← hu] at KU
  rw [← hpp] at K4
  have S1 := Lib.hid (sz_path K4.out.ok K4.out.len); have S2 := Lib.hid (sz_rpath K4.out.ok K4.out.len); have FP := Lib.hid (fitP K4.out.ok K4.out.len); have AP := Lib.hid (allP K4.out.ok K4.out.len)
  have PO := Lib.hid K4.out.ok; have PL := Lib.hid K4.out.len
  clear hk hk1 hk2 hk3 kr kl ka h4 hc hu heu hpp hep hck K4
  by_cases h1 : 300 < a.nm.size
  · have d1 : decide ((300 : Int) < (a.nm.size : Int)) = true := decide_eq_true (by omega)
    clear h1
    go_enter Tryd.func3, Tryd.ntmps3
    go_wp2_with (first
      | ((with_reducible refine at_slot 6 ?_); (refine arm_box (o := ⟨some 6, _, _, _, _, _⟩) rfl _ _ rfl (u8s root) rfl ?_); intro Q v1 Qe hv1 nv1; try simp only [Act.put, List.setIfInBounds_toArray, List.set_cons_zero, List.set_cons_succ])
      | ((with_reducible refine at_slot 7 ?_); (refine arm_box (o := ⟨some 7, _, _, _, _, _⟩) rfl _ _ rfl (u8s leaf) rfl ?_); intro X v2 Xe hv2 nv2; try simp only [Act.put, List.setIfInBounds_toArray, List.set_cons_zero, List.set_cons_succ])
      | ((with_reducible refine at_slot 9 ?_); (refine arm_box (o := ⟨some 9, _, _, _, _, _⟩) rfl _ _ rfl (acs a) rfl ?_); intro A v3 Ae hv3 nv3; try simp only [Act.put, List.setIfInBounds_toArray, List.set_cons_zero, List.set_cons_succ])
      | ((with_reducible refine at_slot 10 ?_); (refine arm_box (o := ⟨some 10, _, _, _, _, _⟩) rfl _ _ rfl (dgC L) rfl ?_); intro Y v4 Ye hv4 nv4; try simp only [Act.put, List.setIfInBounds_toArray, List.set_cons_zero, List.set_cons_succ]))
    have hbv1 := nv1.below
    have rrv1 : Row v1 Q 23 (u8s root) := hv1
    have hbv2 := nv2.below
    have rrv2 : Row v2 X 23 (u8s leaf) := hv2
    have hbv3 := nv3.below
    have rrv3 : Row v3 A 27 (acs a) := hv3
    have hbv4 := nv4.below
    have rrv4 : Row v4 Y 29 (dgC L) := hv4
    have geQ : w.heap.size ≤ Q := by have := Qe.out; omega
    clear hv1 nv1 Qe
    have bel_5 : Below w.heap.size w v1 := hbv1
    clear hbv1
    have geX : w.heap.size ≤ X := by have := Xe.out; have := bel_5.size; omega
    have ltQX : Q < X := by have := Xe.out; have := rrv1.lt; omega
    clear hv2 nv2 Xe
    have Q_6 : Row v2 Q 23 (u8s root) := rrv1.old hbv2
    have bel_6 : Below w.heap.size w v2 := below_step bel_5 bel_5.size hbv2
    clear rrv1 bel_5 hbv2
    have geA : w.heap.size ≤ A := by have := Ae.out; have := bel_6.size; omega
    have ltXA : X < A := by have := Ae.out; have := rrv2.lt; omega
    clear hv3 nv3 Ae
    have Q_7 : Row v3 Q 23 (u8s root) := Q_6.old hbv3
    have X_7 : Row v3 X 23 (u8s leaf) := rrv2.old hbv3
    have bel_7 : Below w.heap.size w v3 := below_step bel_6 bel_6.size hbv3
    clear Q_6 rrv2 bel_6 hbv3
    have geY : w.heap.size ≤ Y := by have := Ye.out; have := bel_7.size; omega
    have ltAY : A < Y := by have := Ye.out; have := rrv3.lt; omega
    clear hv4 nv4 Ye
    have Q_8 : Row v4 Q 23 (u8s root) := Q_7.old hbv4
    have X_8 : Row v4 X 23 (u8s leaf) := X_7.old hbv4
    have A_8 : Row v4 A 27 (acs a) := rrv3.old hbv4
    have bel_8 : Below w.heap.size w v4 := below_step bel_7 bel_7.size hbv4
    clear Q_7 X_7 rrv3 bel_7 hbv4
    refine (CA.out _ (HKW.out _ bel_8)).mono ?_
    rintro e y9 ⟨rfl, hB⟩
    have Q_10 : Row y9 Q 23 (u8s root) := Q_8.old hB
    have X_10 : Row y9 X 23 (u8s leaf) := X_8.old hB
    have A_10 : Row y9 A 27 (acs a) := A_8.old hB
    have Y_10 : Row y9 Y 29 (dgC L) := rrv4.old hB
    have bel_10 : Below w.heap.size w y9 := below_step bel_8 bel_8.size hB
    clear Q_8 X_8 A_8 rrv4 bel_8 hB
    go_wp2_with (first
      | ((with_reducible refine at_slot 24 ?_); (refine arm_want (.string a.nm) 24 rfl (by kernel_rfl) (run_op_load1 _ _ rfl (.string) (by kernel_rfl) rfl ⟨A, 0, none⟩ rfl (.string a.nm) (A_10.cell HNM.out)) ?_); try simp only [Act.put, List.setIfInBounds_toArray, List.set_cons_zero, List.set_cons_succ]))
    go_ret
    exact ⟨rfl, bel_10⟩
  · have d1 : decide ((300 : Int) < (a.nm.size : Int)) = false := decide_eq_false (by omega)
    by_cases h2 : 300 < b.length
    · have d2 : decide ((300 : Int) < (b.length : Int)) = true := decide_eq_true (by omega)
      clear h1 h2
      go_enter Tryd.func3, Tryd.ntmps3
      go_wp2_with (first
        | ((with_reducible refine at_slot 6 ?_); (refine arm_box (o := ⟨some 6, _, _, _, _, _⟩) rfl _ _ rfl (u8s root) rfl ?_); intro Q v1 Qe hv1 nv1; try simp only [Act.put, List.setIfInBounds_toArray, List.set_cons_zero, List.set_cons_succ])
        | ((with_reducible refine at_slot 7 ?_); (refine arm_box (o := ⟨some 7, _, _, _, _, _⟩) rfl _ _ rfl (u8s leaf) rfl ?_); intro X v2 Xe hv2 nv2; try simp only [Act.put, List.setIfInBounds_toArray, List.set_cons_zero, List.set_cons_succ])
        | ((with_reducible refine at_slot 9 ?_); (refine arm_box (o := ⟨some 9, _, _, _, _, _⟩) rfl _ _ rfl (acs a) rfl ?_); intro A v3 Ae hv3 nv3; try simp only [Act.put, List.setIfInBounds_toArray, List.set_cons_zero, List.set_cons_succ])
        | ((with_reducible refine at_slot 10 ?_); (refine arm_box (o := ⟨some 10, _, _, _, _, _⟩) rfl _ _ rfl (dgC L) rfl ?_); intro Y v4 Ye hv4 nv4; try simp only [Act.put, List.setIfInBounds_toArray, List.set_cons_zero, List.set_cons_succ]))
      have hbv1 := nv1.below
      have rrv1 : Row v1 Q 23 (u8s root) := hv1
      have hbv2 := nv2.below
      have rrv2 : Row v2 X 23 (u8s leaf) := hv2
      have hbv3 := nv3.below
      have rrv3 : Row v3 A 27 (acs a) := hv3
      have hbv4 := nv4.below
      have rrv4 : Row v4 Y 29 (dgC L) := hv4
      have geQ : w.heap.size ≤ Q := by have := Qe.out; omega
      clear hv1 nv1 Qe
      have bel_5 : Below w.heap.size w v1 := hbv1
      clear hbv1
      have geX : w.heap.size ≤ X := by have := Xe.out; have := bel_5.size; omega
      have ltQX : Q < X := by have := Xe.out; have := rrv1.lt; omega
      clear hv2 nv2 Xe
      have Q_6 : Row v2 Q 23 (u8s root) := rrv1.old hbv2
      have bel_6 : Below w.heap.size w v2 := below_step bel_5 bel_5.size hbv2
      clear rrv1 bel_5 hbv2
      have geA : w.heap.size ≤ A := by have := Ae.out; have := bel_6.size; omega
      have ltXA : X < A := by have := Ae.out; have := rrv2.lt; omega
      clear hv3 nv3 Ae
      have Q_7 : Row v3 Q 23 (u8s root) := Q_6.old hbv3
      have X_7 : Row v3 X 23 (u8s leaf) := rrv2.old hbv3
      have bel_7 : Below w.heap.size w v3 := below_step bel_6 bel_6.size hbv3
      clear Q_6 rrv2 bel_6 hbv3
      have geY : w.heap.size ≤ Y := by have := Ye.out; have := bel_7.size; omega
      have ltAY : A < Y := by have := Ye.out; have := rrv3.lt; omega
      clear hv4 nv4 Ye
      have Q_8 : Row v4 Q 23 (u8s root) := Q_7.old hbv4
      have X_8 : Row v4 X 23 (u8s leaf) := X_7.old hbv4
      have A_8 : Row v4 A 27 (acs a) := rrv3.old hbv4
      have bel_8 : Below w.heap.size w v4 := below_step bel_7 bel_7.size hbv4
      clear Q_7 X_7 rrv3 bel_7 hbv4
      refine (CA.out _ (HKW.out _ bel_8)).mono ?_
      rintro e y9 ⟨rfl, hB⟩
      have Q_10 : Row y9 Q 23 (u8s root) := Q_8.old hB
      have X_10 : Row y9 X 23 (u8s leaf) := X_8.old hB
      have A_10 : Row y9 A 27 (acs a) := A_8.old hB
      have Y_10 : Row y9 Y 29 (dgC L) := rrv4.old hB
      have bel_10 : Below w.heap.size w y9 := below_step bel_8 bel_8.size hB
      clear Q_8 X_8 A_8 rrv4 bel_8 hB
      go_wp2_with (first
        | ((with_reducible refine at_slot 24 ?_); (refine arm_want (.string a.nm) 24 rfl (by kernel_rfl) (run_op_load1 _ _ rfl (.string) (by kernel_rfl) rfl ⟨A, 0, none⟩ rfl (.string a.nm) (A_10.cell HNM.out)) ?_); try simp only [Act.put, List.setIfInBounds_toArray, List.set_cons_zero, List.set_cons_succ]))
      go_ret
      exact ⟨rfl, bel_10⟩
    · have d2 : decide ((300 : Int) < (b.length : Int)) = false := decide_eq_false (by omega)
      clear h1 h2
      go_enter Tryd.func3, Tryd.ntmps3
      go_wp2_with (first
        | ((with_reducible refine at_slot 6 ?_); (refine arm_box (o := ⟨some 6, _, _, _, _, _⟩) rfl _ _ rfl (u8s root) rfl ?_); intro Q v1 Qe hv1 nv1; try simp only [Act.put, List.setIfInBounds_toArray, List.set_cons_zero, List.set_cons_succ])
        | ((with_reducible refine at_slot 7 ?_); (refine arm_box (o := ⟨some 7, _, _, _, _, _⟩) rfl _ _ rfl (u8s leaf) rfl ?_); intro X v2 Xe hv2 nv2; try simp only [Act.put, List.setIfInBounds_toArray, List.set_cons_zero, List.set_cons_succ])
        | ((with_reducible refine at_slot 9 ?_); (refine arm_box (o := ⟨some 9, _, _, _, _, _⟩) rfl _ _ rfl (acs a) rfl ?_); intro A v3 Ae hv3 nv3; try simp only [Act.put, List.setIfInBounds_toArray, List.set_cons_zero, List.set_cons_succ])
        | ((with_reducible refine at_slot 10 ?_); (refine arm_box (o := ⟨some 10, _, _, _, _, _⟩) rfl _ _ rfl (dgC L) rfl ?_); intro Y v4 Ye hv4 nv4; try simp only [Act.put, List.setIfInBounds_toArray, List.set_cons_zero, List.set_cons_succ]))
      have hbv1 := nv1.below
      have rrv1 : Row v1 Q 23 (u8s root) := hv1
      have hbv2 := nv2.below
      have rrv2 : Row v2 X 23 (u8s leaf) := hv2
      have hbv3 := nv3.below
      have rrv3 : Row v3 A 27 (acs a) := hv3
      have hbv4 := nv4.below
      have rrv4 : Row v4 Y 29 (dgC L) := hv4
      have geQ : w.heap.size ≤ Q := by have := Qe.out; omega
      clear hv1 nv1 Qe
      have bel_5 : Below w.heap.size w v1 := hbv1
      clear hbv1
      have geX : w.heap.size ≤ X := by have := Xe.out; have := bel_5.size; omega
      have ltQX : Q < X := by have := Xe.out; have := rrv1.lt; omega
      clear hv2 nv2 Xe
      have Q_6 : Row v2 Q 23 (u8s root) := rrv1.old hbv2
      have bel_6 : Below w.heap.size w v2 := below_step bel_5 bel_5.size hbv2
      clear rrv1 bel_5 hbv2
      have geA : w.heap.size ≤ A := by have := Ae.out; have := bel_6.size; omega
      have ltXA : X < A := by have := Ae.out; have := rrv2.lt; omega
      clear hv3 nv3 Ae
      have Q_7 : Row v3 Q 23 (u8s root) := Q_6.old hbv3
      have X_7 : Row v3 X 23 (u8s leaf) := rrv2.old hbv3
      have bel_7 : Below w.heap.size w v3 := below_step bel_6 bel_6.size hbv3
      clear Q_6 rrv2 bel_6 hbv3
      have geY : w.heap.size ≤ Y := by have := Ye.out; have := bel_7.size; omega
      have ltAY : A < Y := by have := Ye.out; have := rrv3.lt; omega
      clear hv4 nv4 Ye
      have Q_8 : Row v4 Q 23 (u8s root) := Q_7.old hbv4
      have X_8 : Row v4 X 23 (u8s leaf) := X_7.old hbv4
      have A_8 : Row v4 A 27 (acs a) := rrv3.old hbv4
      have bel_8 : Below w.heap.size w v4 := below_step bel_7 bel_7.size hbv4
      clear Q_7 X_7 rrv3 bel_7 hbv4
      refine (CA.out _ (HKW.out _ bel_8)).mono ?_
      rintro e y9 ⟨rfl, hB⟩
      have Q_10 : Row y9 Q 23 (u8s root) := Q_8.old hB
      have X_10 : Row y9 X 23 (u8s leaf) := X_8.old hB
      have A_10 : Row y9 A 27 (acs a) := A_8.old hB
      have Y_10 : Row y9 Y 29 (dgC L) := rrv4.old hB
      have bel_10 : Below w.heap.size w y9 := below_step bel_8 bel_8.size hB
      clear Q_8 X_8 A_8 rrv4 bel_8 hB
      go_wp2_with (first
        | ((with_reducible refine at_slot 24 ?_); (refine arm_want (.string a.nm) 24 rfl (by kernel_rfl) (run_op_load1 _ _ rfl (.string) (by kernel_rfl) rfl ⟨A, 0, none⟩ rfl (.string a.nm) (A_10.cell HNM.out)) ?_); try simp only [Act.put, List.setIfInBounds_toArray, List.set_cons_zero, List.set_cons_succ])
        | ((with_reducible refine at_slot 34 ?_); (refine arm_load (o := ⟨some 34, _, _, _, _, _⟩) rfl _ _ rfl X 0 rfl (u8s leaf) ((Has.refl _).range X_10) (szH KF.out) ?_); try simp only [Act.put, List.setIfInBounds_toArray, List.set_cons_zero, List.set_cons_succ])
        | ((with_reducible refine at_slot 35 ?_); (refine arm_load (o := ⟨some 35, _, _, _, _, _⟩) rfl _ _ rfl Y 0 rfl (dgC L) ((Has.refl _).range Y_10) SP.out ?_); try simp only [Act.put, List.setIfInBounds_toArray, List.set_cons_zero, List.set_cons_succ]))
      refine (CL1.out _ (HKW.out _ bel_10)).mono ?_
      rintro e y11 ⟨rfl, hB⟩
      have Q_12 : Row y11 Q 23 (u8s root) := Q_10.old hB
      have X_12 : Row y11 X 23 (u8s leaf) := X_10.old hB
      have A_12 : Row y11 A 27 (acs a) := A_10.old hB
      have Y_12 : Row y11 Y 29 (dgC L) := Y_10.old hB
      have bel_12 : Below w.heap.size w y11 := below_step bel_10 bel_10.size hB
      clear Q_10 X_10 A_10 Y_10 bel_10 hB
      go_wp2_with (first
        | ((with_reducible refine at_slot 13 ?_); (refine arm_alloc (o := ⟨some 13, _, _, _, _, _⟩) rfl _ rfl (u8s zh) zH ?_); intro U v13a Ue hUa nU; try simp only [Act.put, List.setIfInBounds_toArray, List.set_cons_zero, List.set_cons_succ])
        | ((with_reducible refine arm_store (o := ⟨none, _, _, _, _, _⟩) rfl _ _ _ rfl U 0 rfl (u8s u) rfl _ _ hUa (fitH KU.out) (u8s_one _) (szH KU.out) ?_); intro v13 hUb oU sU; try simp only [Act.put, List.setIfInBounds_toArray, List.set_cons_zero, List.set_cons_succ])
        | ((with_reducible refine at_slot 41 ?_); (refine arm_load (o := ⟨some 41, _, _, _, _, _⟩) rfl _ _ rfl X 0 rfl (u8s leaf) ((Has.refl _).range ((X_12.old nU.below).only oU (by have := Ue.out; have := X_12.lt; omega))) (szH KF.out) ?_); try simp only [Act.put, List.setIfInBounds_toArray, List.set_cons_zero, List.set_cons_succ])
        | ((with_reducible refine at_slot 42 ?_); (refine arm_load (o := ⟨some 42, _, _, _, _, _⟩) rfl _ _ rfl Y 0 rfl (dgC L) ((Has.refl _).range ((Y_12.old nU.below).only oU (by have := Ue.out; have := Y_12.lt; omega))) SP.out ?_); try simp only [Act.put, List.setIfInBounds_toArray, List.set_cons_zero, List.set_cons_succ]))
      have lU : y11.heap.size ≤ U := by have := Ue.out; omega
      have bU : Below y11.heap.size y11 v13 := below_only nU.below oU lU nU.below.size
      have rrU : Row v13 U 23 (u8s u) := hUb.congr (allH KU.out)
      have geU : w.heap.size ≤ U := Nat.le_trans bel_12.size lU
      clear hUa hUb nU oU sU Ue lU
      have Q_14 : Row v13 Q 23 (u8s root) := Q_12.old bU
      have X_14 : Row v13 X 23 (u8s leaf) := X_12.old bU
      have A_14 : Row v13 A 27 (acs a) := A_12.old bU
      have Y_14 : Row v13 Y 29 (dgC L) := Y_12.old bU
      have bel_14 : Below w.heap.size w v13 := below_step bel_12 bel_12.size bU
      clear Q_12 X_12 A_12 Y_12 bel_12 bU
      refine (CL2.out _ (HKW2.out _ bel_14)).mono ?_
      rintro e y15 ⟨rfl, hB⟩
      have Q_16 : Row y15 Q 23 (u8s root) := Q_14.old hB
      have X_16 : Row y15 X 23 (u8s leaf) := X_14.old hB
      have A_16 : Row y15 A 27 (acs a) := A_14.old hB
      have Y_16 : Row y15 Y 29 (dgC L) := Y_14.old hB
      have U_16 : Row y15 U 23 (u8s u) := rrU.old hB
      have bel_16 : Below w.heap.size w y15 := below_step bel_14 bel_14.size hB
      clear Q_14 X_14 A_14 Y_14 rrU bel_14 hB
      go_wp2_with (first
        | ((with_reducible refine at_slot 15 ?_); (refine arm_alloc (o := ⟨some 15, _, _, _, _, _⟩) rfl _ rfl (u8s zh) zH ?_); intro V v17a Ve hVa nV; try simp only [Act.put, List.setIfInBounds_toArray, List.set_cons_zero, List.set_cons_succ])
        | ((with_reducible refine arm_store (o := ⟨none, _, _, _, _, _⟩) rfl _ _ _ rfl V 0 rfl (u8s u) rfl _ _ hVa (fitH KU.out) (u8s_one _) (szH KU.out) ?_); intro v17 hVb oV sV; try simp only [Act.put, List.setIfInBounds_toArray, List.set_cons_zero, List.set_cons_succ]))
      have lV : y15.heap.size ≤ V := by have := Ve.out; omega
      have bV : Below y15.heap.size y15 v17 := below_only nV.below oV lV nV.below.size
      have rrV : Row v17 V 23 (u8s u) := hVb.congr (allH KU.out)
      have geV : w.heap.size ≤ V := Nat.le_trans bel_16.size lV
      clear hVa hVb nV oV sV Ve lV
      have Q_18 : Row v17 Q 23 (u8s root) := Q_16.old bV
      have X_18 : Row v17 X 23 (u8s leaf) := X_16.old bV
      have A_18 : Row v17 A 27 (acs a) := A_16.old bV
      have Y_18 : Row v17 Y 29 (dgC L) := Y_16.old bV
      have U_18 : Row v17 U 23 (u8s u) := U_16.old bV
      have bel_18 : Below w.heap.size w v17 := below_step bel_16 bel_16.size bV
      clear Q_16 X_16 A_16 Y_16 U_16 bel_16 bV
      refine (CR1.out _ (HCM.out _ bel_18)).mono ?_
      rintro e y19 ⟨rfl, hB⟩
      have Q_20 : Row y19 Q 23 (u8s root) := Q_18.old hB
      have X_20 : Row y19 X 23 (u8s leaf) := X_18.old hB
      have A_20 : Row y19 A 27 (acs a) := A_18.old hB
      have Y_20 : Row y19 Y 29 (dgC L) := Y_18.old hB
      have U_20 : Row y19 U 23 (u8s u) := U_18.old hB
      have V_20 : Row y19 V 23 (u8s u) := rrV.old hB
      have bel_20 : Below w.heap.size w y19 := below_step bel_18 bel_18.size hB
      clear Q_18 X_18 A_18 Y_18 U_18 rrV bel_18 hB
      go_wp2_with (first
        | ((with_reducible refine at_slot 17 ?_); (refine arm_alloc (o := ⟨some 17, _, _, _, _, _⟩) rfl _ rfl (dgC z4) z_path ?_); intro R v21a Re hRa nR; try simp only [Act.put, List.setIfInBounds_toArray, List.set_cons_zero, List.set_cons_succ])
        | ((with_reducible refine arm_store (o := ⟨none, _, _, _, _, _⟩) rfl _ _ _ rfl R 0 rfl (dgC pp) rfl _ _ hRa FP.out (dgC_ones _) S1.out ?_); intro v21 hRb oR sR; try simp only [Act.put, List.setIfInBounds_toArray, List.set_cons_zero, List.set_cons_succ]))
      have lR : y19.heap.size ≤ R := by have := Re.out; omega
      have bR : Below y19.heap.size y19 v21 := below_only nR.below oR lR nR.below.size
      have rrR : Row v21 R 29 (dgC pp) := hRb.congr AP.out
      have geR : w.heap.size ≤ R := Nat.le_trans bel_20.size lR
      clear hRa hRb nR oR sR Re lR
      have Q_22 : Row v21 Q 23 (u8s root) := Q_20.old bR
      have X_22 : Row v21 X 23 (u8s leaf) := X_20.old bR
      have A_22 : Row v21 A 27 (acs a) := A_20.old bR
      have Y_22 : Row v21 Y 29 (dgC L) := Y_20.old bR
      have U_22 : Row v21 U 23 (u8s u) := U_20.old bR
      have V_22 : Row v21 V 23 (u8s u) := V_20.old bR
      have bel_22 : Below w.heap.size w v21 := below_step bel_20 bel_20.size bR
      clear Q_20 X_20 A_20 Y_20 U_20 V_20 bel_20 bR
      refine (CR2.out _ (HCM.out _ bel_22)).mono ?_
      rintro e y23 ⟨rfl, hB⟩
      have Q_24 : Row y23 Q 23 (u8s root) := Q_22.old hB
      have X_24 : Row y23 X 23 (u8s leaf) := X_22.old hB
      have A_24 : Row y23 A 27 (acs a) := A_22.old hB
      have Y_24 : Row y23 Y 29 (dgC L) := Y_22.old hB
      have U_24 : Row y23 U 23 (u8s u) := U_22.old hB
      have V_24 : Row y23 V 23 (u8s u) := V_22.old hB
      have R_24 : Row y23 R 29 (dgC pp) := rrR.old hB
      have bel_24 : Below w.heap.size w y23 := below_step bel_22 bel_22.size hB
      clear Q_22 X_22 A_22 Y_22 U_22 V_22 rrR bel_22 hB
      go_wp2_with (first
        | ((with_reducible refine at_slot 19 ?_); (refine arm_alloc (o := ⟨some 19, _, _, _, _, _⟩) rfl _ rfl (dgC z4) z_rpath ?_); intro S v25a Se hSa nS; try simp only [Act.put, List.setIfInBounds_toArray, List.set_cons_zero, List.set_cons_succ])
        | ((with_reducible refine arm_store (o := ⟨none, _, _, _, _, _⟩) rfl _ _ _ rfl S 0 rfl (dgC pp) rfl _ _ hSa FP.out (dgC_ones _) S2.out ?_); intro v25 hSb oS sS; try simp only [Act.put, List.setIfInBounds_toArray, List.set_cons_zero, List.set_cons_succ]))
      have lS : y23.heap.size ≤ S := by have := Se.out; omega
      have bS : Below y23.heap.size y23 v25 := below_only nS.below oS lS nS.below.size
      have rrS : Row v25 S 28 (dgC pp) := hSb.congr AP.out
      have geS : w.heap.size ≤ S := Nat.le_trans bel_24.size lS
      clear hSa hSb nS oS sS Se lS
      have Q_26 : Row v25 Q 23 (u8s root) := Q_24.old bS
      have X_26 : Row v25 X 23 (u8s leaf) := X_24.old bS
      have A_26 : Row v25 A 27 (acs a) := A_24.old bS
      have Y_26 : Row v25 Y 29 (dgC L) := Y_24.old bS
      have U_26 : Row v25 U 23 (u8s u) := U_24.old bS
      have V_26 : Row v25 V 23 (u8s u) := V_24.old bS
      have R_26 : Row v25 R 29 (dgC pp) := R_24.old bS
      have bel_26 : Below w.heap.size w v25 := below_step bel_24 bel_24.size bS
      clear Q_24 X_24 A_24 Y_24 U_24 V_24 R_24 bel_24 bS
      refine wp_region_held (S := fun w' => Row w' Q 23 (u8s root) ∧ Row w' A 27 (acs a) ∧ Row w' Y 29 (dgC L) ∧ Row w' U 23 (u8s u) ∧ Row w' V 23 (u8s u) ∧ Row w' R 29 (dgC pp) ∧ Row w' S 28 (dgC pp) ∧ True) (by kernel_rfl) ?_
      change wpAnyH _ _ _ _ _ _ _ _ v25.drew
      have hd27 : Below v25.heap.size v25 v25.drew := (Below.refl _ _).drew
      have Q_28 : Row v25.drew Q 23 (u8s root) := Q_26.old hd27
      have X_28 : Row v25.drew X 23 (u8s leaf) := X_26.old hd27
      have A_28 : Row v25.drew A 27 (acs a) := A_26.old hd27
      have Y_28 : Row v25.drew Y 29 (dgC L) := Y_26.old hd27
      have U_28 : Row v25.drew U 23 (u8s u) := U_26.old hd27
      have V_28 : Row v25.drew V 23 (u8s u) := V_26.old hd27
      have R_28 : Row v25.drew R 29 (dgC pp) := R_26.old hd27
      have S_28 : Row v25.drew S 28 (dgC pp) := rrS.old hd27
      have bel_28 : Below w.heap.size w v25.drew := below_step bel_26 bel_26.size hd27
      clear Q_26 X_26 A_26 Y_26 U_26 V_26 R_26 rrS bel_26 hd27
      generalize v25.drew = yz27 at Q_28 X_28 A_28 Y_28 U_28 V_28 R_28 S_28 bel_28 ⊢
      refine h_take 0 (.agg (u8s u).toArray) rfl 56 rfl (by kernel_rfl) (by kernel_rfl) (by kernel_rfl) (by kernel_rfl) (fun _ _ _ h => h) (fun w' hw => run_op_load _ _ rfl U (0) rfl (u8s u) (((Has.refl _)).range hw.2.2.2.1) ((szH KU.out))) ⟨Q_28, A_28, Y_28, U_28, V_28, R_28, S_28, trivial⟩ ?_
      simp only [Act.put, List.setIfInBounds_toArray, List.set_cons_zero, List.set_cons_succ]
      refine h_take 1 (.agg (u8s u).toArray) rfl 57 rfl (by kernel_rfl) (by kernel_rfl) (by kernel_rfl) (by kernel_rfl) (fun _ _ _ h => h) (fun w' hw => run_op_load _ _ rfl V (0) rfl (u8s u) (((Has.refl _)).range hw.2.2.2.2.1) ((szH KU.out))) ⟨Q_28, A_28, Y_28, U_28, V_28, R_28, S_28, trivial⟩ ?_
      simp only [Act.put, List.setIfInBounds_toArray, List.set_cons_zero, List.set_cons_succ]
      refine h_take 2 (.bool true) rfl 58 rfl (by kernel_rfl) (by kernel_rfl) (by kernel_rfl) (by kernel_rfl) (fun _ _ _ h => h) (fun w' _ => run_op_eqlD KU.out KU.out _ _ _ rfl rfl rfl true (iff_of_true rfl rfl) w') ⟨Q_28, A_28, Y_28, U_28, V_28, R_28, S_28, trivial⟩ ?_
      simp only [Act.put, List.setIfInBounds_toArray, List.set_cons_zero, List.set_cons_succ]
      refine h_take 3 (.bool true) rfl 59 rfl (by kernel_rfl) (by kernel_rfl) (by kernel_rfl) (by kernel_rfl) (fun _ _ _ h => h) (fun w' _ => by kernel_rfl) ⟨Q_28, A_28, Y_28, U_28, V_28, R_28, S_28, trivial⟩ ?_
      simp only [Act.put, List.setIfInBounds_toArray, List.set_cons_zero, List.set_cons_succ]
      refine h_take 4 (.int .i64 (eu : Int)) rfl 60 rfl (by kernel_rfl) (by kernel_rfl) (by kernel_rfl) (by kernel_rfl) (fun _ _ _ h => h) (fun w' _ => by kernel_rfl) ⟨Q_28, A_28, Y_28, U_28, V_28, R_28, S_28, trivial⟩ ?_
      simp only [Act.put, List.setIfInBounds_toArray, List.set_cons_zero, List.set_cons_succ]
      refine h_take 5 (.int .i64 (eu : Int)) rfl 61 rfl (by kernel_rfl) (by kernel_rfl) (by kernel_rfl) (by kernel_rfl) (fun _ _ _ h => h) (fun w' _ => by kernel_rfl) ⟨Q_28, A_28, Y_28, U_28, V_28, R_28, S_28, trivial⟩ ?_
      simp only [Act.put, List.setIfInBounds_toArray, List.set_cons_zero, List.set_cons_succ]
      refine h_take 6 (.bool true) rfl 62 rfl (by kernel_rfl) (by kernel_rfl) (by kernel_rfl) (by kernel_rfl) (fun _ _ _ h => h) (fun w' _ => cmp_eql _ _ .i64 (by kernel_rfl) _ _ rfl .i64 (eu : Int) (eu : Int) rfl rfl true (decide_eq_true rfl) w') ⟨Q_28, A_28, Y_28, U_28, V_28, R_28, S_28, trivial⟩ ?_
      simp only [Act.put, List.setIfInBounds_toArray, List.set_cons_zero, List.set_cons_succ]
      refine h_take 7 (.bool true) rfl 63 rfl (by kernel_rfl) (by kernel_rfl) (by kernel_rfl) (by kernel_rfl) (fun _ _ _ h => h) (fun w' _ => by kernel_rfl) ⟨Q_28, A_28, Y_28, U_28, V_28, R_28, S_28, trivial⟩ ?_
      simp only [Act.put, List.setIfInBounds_toArray, List.set_cons_zero, List.set_cons_succ]
      refine h_take 8 (.bool true) rfl 64 rfl (by kernel_rfl) (by kernel_rfl) (by kernel_rfl) (by kernel_rfl) (fun _ _ _ h => h) (fun w' _ => by kernel_rfl) ⟨Q_28, A_28, Y_28, U_28, V_28, R_28, S_28, trivial⟩ ?_
      simp only [Act.put, List.setIfInBounds_toArray, List.set_cons_zero, List.set_cons_succ]
      refine h_take 9 (.agg (dgC pp).toArray) rfl 65 rfl (by kernel_rfl) (by kernel_rfl) (by kernel_rfl) (by kernel_rfl) (fun _ _ _ h => h) (fun w' hw => run_op_load _ _ rfl R (0) rfl (dgC pp) (((Has.refl _)).range hw.2.2.2.2.2.1) (S1.out)) ⟨Q_28, A_28, Y_28, U_28, V_28, R_28, S_28, trivial⟩ ?_
      simp only [Act.put, List.setIfInBounds_toArray, List.set_cons_zero, List.set_cons_succ]
      refine h_take 10 (.agg (dgC pp).toArray) rfl 66 rfl (by kernel_rfl) (by kernel_rfl) (by kernel_rfl) (by kernel_rfl) (fun _ _ _ h => h) (fun w' hw => run_op_load _ _ rfl S (0) rfl (dgC pp) (((Has.refl _)).range hw.2.2.2.2.2.2.1) (S2.out)) ⟨Q_28, A_28, Y_28, U_28, V_28, R_28, S_28, trivial⟩ ?_
      simp only [Act.put, List.setIfInBounds_toArray, List.set_cons_zero, List.set_cons_succ]
      refine h_take 11 (.bool true) rfl 67 rfl (by kernel_rfl) (by kernel_rfl) (by kernel_rfl) (by kernel_rfl) (fun _ _ _ h => h) (fun w' _ => run_op_eqlP PO.out PO.out PL.out PL.out _ (by kernel_rfl) (by kernel_rfl) _ _ _ rfl rfl rfl true (iff_of_true rfl rfl) w') ⟨Q_28, A_28, Y_28, U_28, V_28, R_28, S_28, trivial⟩ ?_
      simp only [Act.put, List.setIfInBounds_toArray, List.set_cons_zero, List.set_cons_succ]
      refine h_take 12 (.bool true) rfl 68 rfl (by kernel_rfl) (by kernel_rfl) (by kernel_rfl) (by kernel_rfl) (fun _ _ _ h => h) (fun w' _ => by kernel_rfl) ⟨Q_28, A_28, Y_28, U_28, V_28, R_28, S_28, trivial⟩ ?_
      simp only [Act.put, List.setIfInBounds_toArray, List.set_cons_zero, List.set_cons_succ]
      refine h_take 13 (.bool true) rfl 69 rfl (by kernel_rfl) (by kernel_rfl) (by kernel_rfl) (by kernel_rfl) (fun _ _ _ h => h) (fun w' _ => by kernel_rfl) ⟨Q_28, A_28, Y_28, U_28, V_28, R_28, S_28, trivial⟩ ?_
      simp only [Act.put, List.setIfInBounds_toArray, List.set_cons_zero, List.set_cons_succ]
      refine h_take 14 (.int .i64 (ep : Int)) rfl 70 rfl (by kernel_rfl) (by kernel_rfl) (by kernel_rfl) (by kernel_rfl) (fun _ _ _ h => h) (fun w' _ => by kernel_rfl) ⟨Q_28, A_28, Y_28, U_28, V_28, R_28, S_28, trivial⟩ ?_
      simp only [Act.put, List.setIfInBounds_toArray, List.set_cons_zero, List.set_cons_succ]
      refine h_take 15 (.int .i64 (ep : Int)) rfl 71 rfl (by kernel_rfl) (by kernel_rfl) (by kernel_rfl) (by kernel_rfl) (fun _ _ _ h => h) (fun w' _ => by kernel_rfl) ⟨Q_28, A_28, Y_28, U_28, V_28, R_28, S_28, trivial⟩ ?_
      simp only [Act.put, List.setIfInBounds_toArray, List.set_cons_zero, List.set_cons_succ]
      refine h_take 16 (.bool true) rfl 72 rfl (by kernel_rfl) (by kernel_rfl) (by kernel_rfl) (by kernel_rfl) (fun _ _ _ h => h) (fun w' _ => cmp_eql _ _ .i64 (by kernel_rfl) _ _ rfl .i64 (ep : Int) (ep : Int) rfl rfl true (decide_eq_true rfl) w') ⟨Q_28, A_28, Y_28, U_28, V_28, R_28, S_28, trivial⟩ ?_
      simp only [Act.put, List.setIfInBounds_toArray, List.set_cons_zero, List.set_cons_succ]
      refine h_take 17 (.bool true) rfl 73 rfl (by kernel_rfl) (by kernel_rfl) (by kernel_rfl) (by kernel_rfl) (fun _ _ _ h => h) (fun w' _ => by kernel_rfl) ⟨Q_28, A_28, Y_28, U_28, V_28, R_28, S_28, trivial⟩ ?_
      simp only [Act.put, List.setIfInBounds_toArray, List.set_cons_zero, List.set_cons_succ]
      refine h_take 18 (.bool true) rfl 74 rfl (by kernel_rfl) (by kernel_rfl) (by kernel_rfl) (by kernel_rfl) (fun _ _ _ h => h) (fun w' _ => by kernel_rfl) ⟨Q_28, A_28, Y_28, U_28, V_28, R_28, S_28, trivial⟩ ?_
      simp only [Act.put, List.setIfInBounds_toArray, List.set_cons_zero, List.set_cons_succ]
      refine h_take 19 (.agg (dgC L).toArray) rfl 75 rfl (by kernel_rfl) (by kernel_rfl) (by kernel_rfl) (by kernel_rfl) (fun _ _ _ h => h) (fun w' hw => run_op_load _ _ rfl Y (0) rfl (dgC L) (((Has.refl _)).range hw.2.2.1) (SP.out)) ⟨Q_28, A_28, Y_28, U_28, V_28, R_28, S_28, trivial⟩ ?_
      simp only [Act.put, List.setIfInBounds_toArray, List.set_cons_zero, List.set_cons_succ]
      refine h_take 21 (.agg (dgC L).toArray) rfl 77 rfl (by kernel_rfl) (by kernel_rfl) (by kernel_rfl) (by kernel_rfl) (fun _ _ _ h => h) (fun w' hw => run_op_load _ _ rfl Y (0) rfl (dgC L) (((Has.refl _)).range hw.2.2.1) (SP.out)) ⟨Q_28, A_28, Y_28, U_28, V_28, R_28, S_28, trivial⟩ ?_
      simp only [Act.put, List.setIfInBounds_toArray, List.set_cons_zero, List.set_cons_succ]
      refine h_one (i := 20) (by kernel_rfl) (o_call rfl 76 rfl (by kernel_rfl) (run_op_call 13 _ _ rfl #[.agg (dgC L).toArray] (by simp only [List.map_toArray, List.map_cons, List.map_nil]; rfl) Tryd.func13 (by kernel_rfl) (by kernel_rfl) _) (CB1.out _) ?_)
      rintro e y29 ⟨⟨q1, c1, rfl, hC1⟩, hB⟩
      have Q_30 : Row y29 Q 23 (u8s root) := Q_28.old hB
      have X_30 : Row y29 X 23 (u8s leaf) := X_28.old hB
      have A_30 : Row y29 A 27 (acs a) := A_28.old hB
      have Y_30 : Row y29 Y 29 (dgC L) := Y_28.old hB
      have U_30 : Row y29 U 23 (u8s u) := U_28.old hB
      have V_30 : Row y29 V 23 (u8s u) := V_28.old hB
      have R_30 : Row y29 R 29 (dgC pp) := R_28.old hB
      have S_30 : Row y29 S 28 (dgC pp) := S_28.old hB
      have bel_30 : Below w.heap.size w y29 := below_step bel_28 bel_28.size hB
      clear Q_28 X_28 A_28 Y_28 U_28 V_28 R_28 S_28 bel_28 hB
      refine ⟨_, rfl, ⟨Q_30, A_30, Y_30, U_30, V_30, R_30, S_30, trivial⟩, ?_⟩
      simp only [Act.put, List.setIfInBounds_toArray, List.set_cons_zero, List.set_cons_succ]
      refine h_one (i := 22) (by kernel_rfl) (o_call rfl 78 rfl (by kernel_rfl) (run_op_call 14 _ _ rfl #[.agg (dgC L).toArray] (by simp only [List.map_toArray, List.map_cons, List.map_nil]; rfl) Tryd.func14 (by kernel_rfl) (by kernel_rfl) _) (CB2.out _) ?_)
      rintro e y31 ⟨⟨q2, c2, rfl, hC2⟩, hB⟩
      have Q_32 : Row y31 Q 23 (u8s root) := Q_30.old hB
      have X_32 : Row y31 X 23 (u8s leaf) := X_30.old hB
      have A_32 : Row y31 A 27 (acs a) := A_30.old hB
      have Y_32 : Row y31 Y 29 (dgC L) := Y_30.old hB
      have U_32 : Row y31 U 23 (u8s u) := U_30.old hB
      have V_32 : Row y31 V 23 (u8s u) := V_30.old hB
      have R_32 : Row y31 R 29 (dgC pp) := R_30.old hB
      have S_32 : Row y31 S 28 (dgC pp) := S_30.old hB
      have C1_32 : Came y31 q1 c1 (pathB L) := hC1.below hB
      have bel_32 : Below w.heap.size w y31 := below_step bel_30 bel_30.size hB
      clear Q_30 X_30 A_30 Y_30 U_30 V_30 R_30 S_30 hC1 bel_30 hB
      refine ⟨_, rfl, ⟨Q_32, A_32, Y_32, U_32, V_32, R_32, S_32, trivial⟩, ?_⟩
      simp only [Act.put, List.setIfInBounds_toArray, List.set_cons_zero, List.set_cons_succ]
      refine h_one (i := 23) (by kernel_rfl) (o_call rfl 79 rfl (by kernel_rfl) (run_op_call 12 _ _ rfl #[.slice q1 128 c1, .slice q2 128 c2] (by simp only [List.map_toArray, List.map_cons, List.map_nil]; rfl) Tryd.func12 (by kernel_rfl) (by kernel_rfl) _) (CSM.out _ _ _ _ _ C1_32 hC2) ?_)
      rintro e y33 ⟨rfl, hB⟩
      have Q_34 : Row y33 Q 23 (u8s root) := Q_32.old hB
      have X_34 : Row y33 X 23 (u8s leaf) := X_32.old hB
      have A_34 : Row y33 A 27 (acs a) := A_32.old hB
      have Y_34 : Row y33 Y 29 (dgC L) := Y_32.old hB
      have U_34 : Row y33 U 23 (u8s u) := U_32.old hB
      have V_34 : Row y33 V 23 (u8s u) := V_32.old hB
      have R_34 : Row y33 R 29 (dgC pp) := R_32.old hB
      have S_34 : Row y33 S 28 (dgC pp) := S_32.old hB
      have C1_34 : Came y33 q1 c1 (pathB L) := C1_32.below hB
      have C2_34 : Came y33 q2 c2 (pathB L) := hC2.below hB
      have bel_34 : Below w.heap.size w y33 := below_step bel_32 bel_32.size hB
      clear Q_32 X_32 A_32 Y_32 U_32 V_32 R_32 S_32 C1_32 hC2 bel_32 hB
      refine ⟨_, rfl, ⟨Q_34, A_34, Y_34, U_34, V_34, R_34, S_34, trivial⟩, ?_⟩
      simp only [Act.put, List.setIfInBounds_toArray, List.set_cons_zero, List.set_cons_succ]
      refine h_take 24 (.bool true) rfl 80 rfl (by kernel_rfl) (by kernel_rfl) (by kernel_rfl) (by kernel_rfl) (fun _ _ _ h => h) (fun w' _ => by kernel_rfl) ⟨Q_34, A_34, Y_34, U_34, V_34, R_34, S_34, trivial⟩ ?_
      simp only [Act.put, List.setIfInBounds_toArray, List.set_cons_zero, List.set_cons_succ]
      refine h_take 25 (.bool true) rfl 81 rfl (by kernel_rfl) (by kernel_rfl) (by kernel_rfl) (by kernel_rfl) (fun _ _ _ h => h) (fun w' _ => by kernel_rfl) ⟨Q_34, A_34, Y_34, U_34, V_34, R_34, S_34, trivial⟩ ?_
      simp only [Act.put, List.setIfInBounds_toArray, List.set_cons_zero, List.set_cons_succ]
      refine h_take 26 (.agg (u8s root).toArray) rfl 82 rfl (by kernel_rfl) (by kernel_rfl) (by kernel_rfl) (by kernel_rfl) (fun _ _ _ h => h) (fun w' hw => run_op_load _ _ rfl Q (0) rfl (u8s root) (((Has.refl _)).range hw.1) ((szH KR.out))) ⟨Q_34, A_34, Y_34, U_34, V_34, R_34, S_34, trivial⟩ ?_
      simp only [Act.put, List.setIfInBounds_toArray, List.set_cons_zero, List.set_cons_succ]
      refine h_take 27 (.int .i64 p) rfl 83 rfl (by kernel_rfl) (by kernel_rfl) (by kernel_rfl) (by kernel_rfl) (fun _ _ _ h => h) (fun w' _ => by kernel_rfl) ⟨Q_34, A_34, Y_34, U_34, V_34, R_34, S_34, trivial⟩ ?_
      simp only [Act.put, List.setIfInBounds_toArray, List.set_cons_zero, List.set_cons_succ]
      refine h_take 28 (.agg (acs a).toArray) rfl 84 rfl (by kernel_rfl) (by kernel_rfl) (by kernel_rfl) (by kernel_rfl) (fun _ _ _ h => h) (fun w' hw => run_op_load _ _ rfl A (0) rfl (acs a) (((Has.refl _)).range hw.2.1) (AX.out)) ⟨Q_34, A_34, Y_34, U_34, V_34, R_34, S_34, trivial⟩ ?_
      simp only [Act.put, List.setIfInBounds_toArray, List.set_cons_zero, List.set_cons_succ]
      refine h_take 29 (.agg (dgC L).toArray) rfl 85 rfl (by kernel_rfl) (by kernel_rfl) (by kernel_rfl) (by kernel_rfl) (fun _ _ _ h => h) (fun w' hw => run_op_load _ _ rfl Y (0) rfl (dgC L) (((Has.refl _)).range hw.2.2.1) (SP.out)) ⟨Q_34, A_34, Y_34, U_34, V_34, R_34, S_34, trivial⟩ ?_
      simp only [Act.put, List.setIfInBounds_toArray, List.set_cons_zero, List.set_cons_succ]
      refine h_take 31 (.agg (u8s root).toArray) rfl 87 rfl (by kernel_rfl) (by kernel_rfl) (by kernel_rfl) (by kernel_rfl) (fun _ _ _ h => h) (fun w' hw => run_op_load _ _ rfl Q (0) rfl (u8s root) (((Has.refl _)).range hw.1) ((szH KR.out))) ⟨Q_34, A_34, Y_34, U_34, V_34, R_34, S_34, trivial⟩ ?_
      simp only [Act.put, List.setIfInBounds_toArray, List.set_cons_zero, List.set_cons_succ]
      refine h_take 32 (.int .i64 p) rfl 88 rfl (by kernel_rfl) (by kernel_rfl) (by kernel_rfl) (by kernel_rfl) (fun _ _ _ h => h) (fun w' _ => by kernel_rfl) ⟨Q_34, A_34, Y_34, U_34, V_34, R_34, S_34, trivial⟩ ?_
      simp only [Act.put, List.setIfInBounds_toArray, List.set_cons_zero, List.set_cons_succ]
      refine h_take 33 (.agg (acs a).toArray) rfl 89 rfl (by kernel_rfl) (by kernel_rfl) (by kernel_rfl) (by kernel_rfl) (fun _ _ _ h => h) (fun w' hw => run_op_load _ _ rfl A (0) rfl (acs a) (((Has.refl _)).range hw.2.1) (AX.out)) ⟨Q_34, A_34, Y_34, U_34, V_34, R_34, S_34, trivial⟩ ?_
      simp only [Act.put, List.setIfInBounds_toArray, List.set_cons_zero, List.set_cons_succ]
      refine h_take 35 (.agg (dgC L).toArray) rfl 91 rfl (by kernel_rfl) (by kernel_rfl) (by kernel_rfl) (by kernel_rfl) (fun _ _ _ h => h) (fun w' hw => run_op_load _ _ rfl Y (0) rfl (dgC L) (((Has.refl _)).range hw.2.2.1) (SP.out)) ⟨Q_34, A_34, Y_34, U_34, V_34, R_34, S_34, trivial⟩ ?_
      simp only [Act.put, List.setIfInBounds_toArray, List.set_cons_zero, List.set_cons_succ]
      refine h_one (i := 30) (by kernel_rfl) (o_call rfl 86 rfl (by kernel_rfl) (run_op_call 15 _ _ rfl #[.agg (u8s root).toArray, .int .i64 p, .agg (acs a).toArray, .agg (dgC L).toArray] (by simp only [List.map_toArray, List.map_cons, List.map_nil]; rfl) Tryd.func15 (by kernel_rfl) (by kernel_rfl) _) (CK1.out _ (HKW.out _ bel_34)) ?_)
      rintro e y35 ⟨rfl, hB⟩
      have Q_36 : Row y35 Q 23 (u8s root) := Q_34.old hB
      have X_36 : Row y35 X 23 (u8s leaf) := X_34.old hB
      have A_36 : Row y35 A 27 (acs a) := A_34.old hB
      have Y_36 : Row y35 Y 29 (dgC L) := Y_34.old hB
      have U_36 : Row y35 U 23 (u8s u) := U_34.old hB
      have V_36 : Row y35 V 23 (u8s u) := V_34.old hB
      have R_36 : Row y35 R 29 (dgC pp) := R_34.old hB
      have S_36 : Row y35 S 28 (dgC pp) := S_34.old hB
      have C1_36 : Came y35 q1 c1 (pathB L) := C1_34.below hB
      have C2_36 : Came y35 q2 c2 (pathB L) := C2_34.below hB
      have bel_36 : Below w.heap.size w y35 := below_step bel_34 bel_34.size hB
      clear Q_34 X_34 A_34 Y_34 U_34 V_34 R_34 S_34 C1_34 C2_34 bel_34 hB
      refine ⟨_, rfl, ⟨Q_36, A_36, Y_36, U_36, V_36, R_36, S_36, trivial⟩, ?_⟩
      simp only [Act.put, List.setIfInBounds_toArray, List.set_cons_zero, List.set_cons_succ]
      refine h_one (i := 34) (by kernel_rfl) (o_call rfl 90 rfl (by kernel_rfl) (run_op_call 17 _ _ rfl #[.agg (acs a).toArray] (by simp only [List.map_toArray, List.map_cons, List.map_nil]; rfl) Tryd.func17 (by kernel_rfl) (by kernel_rfl) _) (COW.out _) ?_)
      rintro e y37 ⟨rfl, hB⟩
      have Q_38 : Row y37 Q 23 (u8s root) := Q_36.old hB
      have X_38 : Row y37 X 23 (u8s leaf) := X_36.old hB
      have A_38 : Row y37 A 27 (acs a) := A_36.old hB
      have Y_38 : Row y37 Y 29 (dgC L) := Y_36.old hB
      have U_38 : Row y37 U 23 (u8s u) := U_36.old hB
      have V_38 : Row y37 V 23 (u8s u) := V_36.old hB
      have R_38 : Row y37 R 29 (dgC pp) := R_36.old hB
      have S_38 : Row y37 S 28 (dgC pp) := S_36.old hB
      have C1_38 : Came y37 q1 c1 (pathB L) := C1_36.below hB
      have C2_38 : Came y37 q2 c2 (pathB L) := C2_36.below hB
      have bel_38 : Below w.heap.size w y37 := below_step bel_36 bel_36.size hB
      clear Q_36 X_36 A_36 Y_36 U_36 V_36 R_36 S_36 C1_36 C2_36 bel_36 hB
      refine ⟨_, rfl, ⟨Q_38, A_38, Y_38, U_38, V_38, R_38, S_38, trivial⟩, ?_⟩
      simp only [Act.put, List.setIfInBounds_toArray, List.set_cons_zero, List.set_cons_succ]
      refine h_one (i := 36) (by kernel_rfl) (o_call rfl 92 rfl (by kernel_rfl) (run_op_call 16 _ _ rfl #[.agg (u8s root).toArray, .int .i64 p, .agg (acs a).toArray, .agg (dgC L).toArray] (by simp only [List.map_toArray, List.map_cons, List.map_nil]; rfl) Tryd.func16 (by kernel_rfl) (by kernel_rfl) _) (CK2.out _ (HKW2.out _ bel_38)) ?_)
      rintro e y39 ⟨rfl, hB⟩
      have Q_40 : Row y39 Q 23 (u8s root) := Q_38.old hB
      have X_40 : Row y39 X 23 (u8s leaf) := X_38.old hB
      have A_40 : Row y39 A 27 (acs a) := A_38.old hB
      have Y_40 : Row y39 Y 29 (dgC L) := Y_38.old hB
      have U_40 : Row y39 U 23 (u8s u) := U_38.old hB
      have V_40 : Row y39 V 23 (u8s u) := V_38.old hB
      have R_40 : Row y39 R 29 (dgC pp) := R_38.old hB
      have S_40 : Row y39 S 28 (dgC pp) := S_38.old hB
      have C1_40 : Came y39 q1 c1 (pathB L) := C1_38.below hB
      have C2_40 : Came y39 q2 c2 (pathB L) := C2_38.below hB
      have bel_40 : Below w.heap.size w y39 := below_step bel_38 bel_38.size hB
      clear Q_38 X_38 A_38 Y_38 U_38 V_38 R_38 S_38 C1_38 C2_38 bel_38 hB
      refine ⟨_, rfl, ⟨Q_40, A_40, Y_40, U_40, V_40, R_40, S_40, trivial⟩, ?_⟩
      simp only [Act.put, List.setIfInBounds_toArray, List.set_cons_zero, List.set_cons_succ]
      refine h_take 37 (.bool true) rfl 93 rfl (by kernel_rfl) (by kernel_rfl) (by kernel_rfl) (by kernel_rfl) (fun _ _ _ h => h) (fun w' _ => cmp_eql _ _ .i64 (by kernel_rfl) _ _ rfl .i64 (ck : Int) (ck : Int) rfl rfl true (decide_eq_true rfl) w') ⟨Q_40, A_40, Y_40, U_40, V_40, R_40, S_40, trivial⟩ ?_
      simp only [Act.put, List.setIfInBounds_toArray, List.set_cons_zero, List.set_cons_succ]
      refine h_take 38 (.bool true) rfl 94 rfl (by kernel_rfl) (by kernel_rfl) (by kernel_rfl) (by kernel_rfl) (fun _ _ _ h => h) (fun w' _ => by kernel_rfl) ⟨Q_40, A_40, Y_40, U_40, V_40, R_40, S_40, trivial⟩ ?_
      simp only [Act.put, List.setIfInBounds_toArray, List.set_cons_zero, List.set_cons_succ]
      refine h_take 39 (.bool true) rfl 12 rfl (by kernel_rfl) (by kernel_rfl) (by kernel_rfl) (by kernel_rfl) (fun _ _ _ h => h) (fun w' _ => by kernel_rfl) ⟨Q_40, A_40, Y_40, U_40, V_40, R_40, S_40, trivial⟩ ?_
      simp only [Act.put, List.setIfInBounds_toArray, List.set_cons_zero, List.set_cons_succ]
      refine wpAnyH_done (by kernel_rfl) ?_ _
      go_wp2_with fail
      go_ret
      exact ⟨rfl, bel_40⟩
end Go.Proofs.YtaihhbiocolhcaaDoor.Pf
