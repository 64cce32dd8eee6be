/-
  The contract of the document's Clash: of two claims that meet, the first images side by side with one digest. Over this seat's translation.
-/
import Derived.Test.YtaihhbiocolhcaaDoorPrfImgs
import Derived.Test.YtaihhbiocolhcaaDoorBytAll
namespace Go.Proofs.YtaihhbiocolhcaaDoor.Pf
open Go.ChangeShapes Go.WideShapes Go.ChangeAt Go.RowKit Go.Proofs.YtaihhbiocolhcaaDoor.Mem Go.Proofs.YtaihhbiocolhcaaDoor.Bt Go.Proofs.YtaihhbiocolhcaaDoor.Wi Go.Proofs.YtaihhbiocolhcaaDoor.Sha Go.Proofs.YtaihhbiocolhcaaDoor.Ac Go.Proofs.YtaihhbiocolhcaaDoor.Tr
open Go.Proofs.YtaihhbiocolhcaaDoor.Tg (bytesOf bytesOf_length bytesOf_lt bytesOf_inj Rd Rd.below Parts parts_one arm_one tagD tagD_len tagOf_any refTag_any total image image_inj image_length)
open Go.Proofs.YtaihhbiocolhcaaDoor.Ep (H32 zh zh_ok Has h_len szH zH fitH allH came_at one_app)
set_option linter.unusedVariables false
set_option linter.unusedSimpArgs false

theorem run_op_eqlD22 {x y : List Nat} (k : H32 x) (j : H32 y) {o : Oper} {a : Act} (p q : Operand) (t' : TypeId) (ho : o.op = .binOp .eql 22 p q t') (hy : a.eval p = .agg (u8s x).toArray) (hz : a.eval q = .agg (u8s y).toArray) (b : Bool) (hb : b = true ↔ x = y) (w : World) : (execOp a.eval o).run Tryd.prog w = .ok (.value (.bool b)) w :=
  run_op_eqlF 22 p q t' ho 2 (by omega) (.array 32 5) (by kernel_rfl) rfl (by kernel_rfl) (u8s x) (u8s y) hy hz (fit_ints (n := 32) (e := 5) (by kernel_rfl) (by kernel_rfl) (by kernel_rfl) (h_len k) (Ep.u8s_int x)) (fit_ints (n := 32) (e := 5) (by kernel_rfl) (by kernel_rfl) (by kernel_rfl) (h_len j) (Ep.u8s_int y)) b (hb.trans ⟨congrArg u8s, dgC_inj.u8s_same [] []⟩) w
/-- Where the digests are the same for the first time the images aren't. -/
theorem img_ne {p : Nat} {L M : List (List Nat)} {a b : Acct} (h4 : P4 L) (g4 : P4 M) (ka : a.Ok) (kb : b.Ok) (ra : NRt a.nm) (rb : NRt b.nm) (hab : ¬ a = b) : ∀ k, k ≤ 4 → (∀ j, j < k → ¬ leadK p L (digA a) j = leadK p M (digA b) j) → ¬ imgK p L a k = imgK p M b k
  | 0, _, _ => fun e => hab (by
    have h1 := (image_inj (by simp [total, accB_len]; have := ra.2.1; omega) (by simp [total, accB_len]; have := rb.2.1; omega) e).2
    simp only [List.cons.injEq, and_true] at h1
    exact acc_inj ka kb ra rb h1)
  | k + 1, hk, hne => fun e => hne k (by omega) (by
    have h1 := (image_inj (by rw [parts_total (lead_ok (digA_ok a) k) (h4.at (by omega))]; omega) (by rw [parts_total (lead_ok (digA_ok b) k) (g4.at (by omega))]; omega) e).2
    exact (parts_inj h1).1)
structure RcRel (w : World) (P1 P2 : Option Addr) (q : Nat) (L M : List (List Nat)) (a b : Acct) (i : Value) (wr : World) : Prop where
  ex : ∃ k : Nat, k ≤ 5 ∧ i = .int .i64 (k : Int) ∧ (∀ j, j < k → ¬ leadK q L (digA a) j = leadK q M (digA b) j)
  p1 : Parts wr P1 (imgL q L a)
  p2 : Parts wr P2 (imgL q M b)
  bel : Below w.heap.size w wr
set_option maxHeartbeats 4000000 in
set_option maxRecDepth 100000 in
theorem rclash_any (p : Int) (a b : Acct) (L M : List (List Nat)) (w : World) (ka : a.Ok) (kb : b.Ok) (h4 : P4 L) (g4 : P4 M) (hk : w.rangeAt 0 0 (u32s ks)) :
    Calls Tryd.prog 25 #[.int .i64 p, .agg (clc a L).toArray, .agg (clc b M).toArray] w (ClPost w p a b L M) := by
  have hk1 : 0 < w.heap.size := range_lt hk (by simp [u32s, ks])
  have HKW : Hid (∀ w', Below w.heap.size w w' → w'.rangeAt 0 0 (u32s ks)) := Lib.hid fun w' hb => range_block hk (hb.block _ hk1)
  have KA := Lib.hid (sz_racc a); have KB := Lib.hid (sz_racc b)
  have SA := Lib.hid (sz_rclaim a h4); have SB := Lib.hid (sz_rclaim b g4)
  have H4 := Lib.hid h4; have G4 := Lib.hid g4; have HKA := Lib.hid ka; have HKB := Lib.hid kb
  have SPL := Lib.hid (sz_rpath h4.ok h4.len); have SPM := Lib.hid (sz_rpath g4.ok g4.len)
  have KD := Lib.hid (ansH_ok a); have KE := Lib.hid (ansH_ok b)
  obtain ⟨da, hda⟩ : ∃ d, d = ansH a := ⟨_, rfl⟩
  obtain ⟨db, hdb⟩ : ∃ d, d = ansH b := ⟨_, rfl⟩
  obtain ⟨ea, hea⟩ : ∃ d, d = ansE a := ⟨_, rfl⟩
  obtain ⟨eb, heb⟩ : ∃ d, d = ansE b := ⟨_, rfl⟩
  have CHA : Hid (∀ w0, w0.rangeAt 0 0 (u32s ks) → Calls Tryd.prog 33 #[.agg (acs a).toArray] w0 fun e w' => e = .returned (.tuple #[.agg (u8s da).toArray, .int .i64 (ea : Int)]) ∧ Below w0.heap.size w0 w') := Lib.hid fun w0 h => (rhash_any a w0 ka h).mono fun e w' h => ⟨by rw [hda, hea]; exact h.ret, h.bel⟩
  have CHB : Hid (∀ w0, w0.rangeAt 0 0 (u32s ks) → Calls Tryd.prog 33 #[.agg (acs b).toArray] w0 fun e w' => e = .returned (.tuple #[.agg (u8s db).toArray, .int .i64 (eb : Int)]) ∧ Below w0.heap.size w0 w') := Lib.hid fun w0 h => (rhash_any b w0 kb h).mono fun e w' h => ⟨by rw [hdb, heb]; exact h.ret, h.bel⟩
  have E1 : ea = 0 ∧ NRt a.nm ∨ ea = 1 ∧ ¬ NRt a.nm := by rw [hea]; unfold ansE; split <;> simp_all
  have E2 : eb = 0 ∧ NRt b.nm ∨ eb = 1 ∧ ¬ NRt b.nm := by rw [heb]; unfold ansE; split <;> simp_all
  rw [← hda] at KD
  rw [← hdb] at KE
  have HDA := Lib.hid hda; have HDB := Lib.hid hdb
  clear hk hk1 ka kb h4 g4 hda hdb hea heb
  by_cases hn : p < 0
  · have d1 : decide (p < (0 : Int)) = true := decide_eq_true hn
    have HN := Lib.hid hn
    clear hn E1 E2
    go_enter Tryd.func25, Tryd.ntmps25
    go_wp2_with (first
      | ((with_reducible refine at_slot 4 ?_); (refine arm_box (o := ⟨some 4, _, _, _, _, _⟩) rfl _ _ rfl (clc a L) rfl ?_); intro A v1 Ae hv1 nv1; try simp only [Act.put, List.setIfInBounds_toArray, List.set_cons_zero, List.set_cons_succ])
      | ((with_reducible refine at_slot 5 ?_); (refine arm_box (o := ⟨some 5, _, _, _, _, _⟩) rfl _ _ rfl (clc b M) rfl ?_); intro B v2 Be hv2 nv2; try simp only [Act.put, List.setIfInBounds_toArray, List.set_cons_zero, List.set_cons_succ])
      | ((with_reducible refine at_slot 22 ?_); (refine pause ?_); try simp only [Act.put, List.setIfInBounds_toArray, List.set_cons_zero, List.set_cons_succ]))
    have hbv1 := nv1.below
    have rrv1 : Row v1 A 65 (clc a L) := hv1
    have hbv2 := nv2.below
    have rrv2 : Row v2 B 65 (clc b M) := hv2
    have geA : w.heap.size ≤ A := by have := Ae.out; omega
    clear hv1 nv1 Ae
    have bel_3 : Below w.heap.size w v1 := hbv1
    clear hbv1
    have geB : w.heap.size ≤ B := by have := Be.out; have := bel_3.size; omega
    have ltAB : A < B := by have := Be.out; have := rrv1.lt; omega
    clear hv2 nv2 Be
    have A_4 : Row v2 A 65 (clc a L) := rrv1.old hbv2
    have bel_4 : Below w.heap.size w v2 := below_step bel_3 bel_3.size hbv2
    clear rrv1 bel_3 hbv2
    refine go_on ?_
    go_wp2_with (first
      | ((with_reducible refine at_slot 22 ?_); (refine arm_load (o := ⟨some 22, _, _, _, _, _⟩) rfl _ _ rfl A 0 rfl (acs a) ((c_a a L).range A_4) KA.out ?_); try simp only [Act.put, List.setIfInBounds_toArray, List.set_cons_zero, List.set_cons_succ]))
    refine (CHA.out _ (HKW.out _ bel_4)).mono ?_
    rintro e y5 ⟨rfl, hB⟩
    have A_6 : Row y5 A 65 (clc a L) := A_4.old hB
    have B_6 : Row y5 B 65 (clc b M) := rrv2.old hB
    have bel_6 : Below w.heap.size w y5 := below_step bel_4 bel_4.size hB
    clear A_4 rrv2 bel_4 hB
    go_wp2_with (first
      | ((with_reducible refine at_slot 9 ?_); (refine arm_alloc (o := ⟨some 9, _, _, _, _, _⟩) rfl _ rfl (u8s zh) zH ?_); intro D v7a De hDa nD; try simp only [Act.put, List.setIfInBounds_toArray, List.set_cons_zero, List.set_cons_succ])
      | ((with_reducible refine arm_store (o := ⟨none, _, _, _, _, _⟩) rfl _ _ _ rfl D 0 rfl (u8s da) rfl _ _ hDa (fitH KD.out) (u8s_one _) (szH KD.out) ?_); intro v7 hDb oD sD; try simp only [Act.put, List.setIfInBounds_toArray, List.set_cons_zero, List.set_cons_succ])
      | ((with_reducible refine at_slot 28 ?_); (refine pause ?_); try simp only [Act.put, List.setIfInBounds_toArray, List.set_cons_zero, List.set_cons_succ]))
    have lD : y5.heap.size ≤ D := by have := De.out; omega
    have bD : Below y5.heap.size y5 v7 := below_only nD.below oD lD nD.below.size
    have rrD : Row v7 D 23 (u8s da) := hDb.congr (allH KD.out)
    have geD : w.heap.size ≤ D := Nat.le_trans bel_6.size lD
    clear hDa hDb nD oD sD De lD
    have A_8 : Row v7 A 65 (clc a L) := A_6.old bD
    have B_8 : Row v7 B 65 (clc b M) := B_6.old bD
    have bel_8 : Below w.heap.size w v7 := below_step bel_6 bel_6.size bD
    clear A_6 B_6 bel_6 bD
    refine go_on ?_
    go_wp2_with (first
      | ((with_reducible refine at_slot 28 ?_); (refine arm_load (o := ⟨some 28, _, _, _, _, _⟩) rfl _ _ rfl B 0 rfl (acs b) ((c_a b M).range B_8) KB.out ?_); try simp only [Act.put, List.setIfInBounds_toArray, List.set_cons_zero, List.set_cons_succ]))
    refine (CHB.out _ (HKW.out _ bel_8)).mono ?_
    rintro e y9 ⟨rfl, hB⟩
    have A_10 : Row y9 A 65 (clc a L) := A_8.old hB
    have B_10 : Row y9 B 65 (clc b M) := B_8.old hB
    have D_10 : Row y9 D 23 (u8s da) := rrD.old hB
    have bel_10 : Below w.heap.size w y9 := below_step bel_8 bel_8.size hB
    clear A_8 B_8 rrD bel_8 hB
    go_wp2_with (first
      | ((with_reducible refine at_slot 11 ?_); (refine arm_alloc (o := ⟨some 11, _, _, _, _, _⟩) rfl _ rfl (u8s zh) zH ?_); intro E v11a Ee hEa nE; try simp only [Act.put, List.setIfInBounds_toArray, List.set_cons_zero, List.set_cons_succ])
      | ((with_reducible refine arm_store (o := ⟨none, _, _, _, _, _⟩) rfl _ _ _ rfl E 0 rfl (u8s db) rfl _ _ hEa (fitH KE.out) (u8s_one _) (szH KE.out) ?_); intro v11 hEb oE sE; try simp only [Act.put, List.setIfInBounds_toArray, List.set_cons_zero, List.set_cons_succ]))
    have lE : y9.heap.size ≤ E := by have := Ee.out; omega
    have bE : Below y9.heap.size y9 v11 := below_only nE.below oE lE nE.below.size
    have rrE : Row v11 E 23 (u8s db) := hEb.congr (allH KE.out)
    have geE : w.heap.size ≤ E := Nat.le_trans bel_10.size lE
    have neDE : D ≠ E := by have := D_10.lt; omega
    clear hEa hEb nE oE sE Ee lE
    have A_12 : Row v11 A 65 (clc a L) := A_10.old bE
    have B_12 : Row v11 B 65 (clc b M) := B_10.old bE
    have D_12 : Row v11 D 23 (u8s da) := D_10.old bE
    have bel_12 : Below w.heap.size w v11 := below_step bel_10 bel_10.size bE
    clear A_10 B_10 D_10 bel_10 bE
    refine bodyPost_ret (res_three rfl _ _ _) rfl ?_
    exact ⟨fun _ => rfl, fun h => absurd (meet_true h) (fun h => by have := h.2.2.1.1; have := HN.out; omega), bel_12⟩
  · have d1 : decide (p < (0 : Int)) = false := decide_eq_false hn
    by_cases hg : 15 < p
    · have d2 : decide ((15 : Int) < p) = true := decide_eq_true hg
      have HN := Lib.hid hg
      clear hn hg E1 E2
      go_enter Tryd.func25, Tryd.ntmps25
      go_wp2_with (first
        | ((with_reducible refine at_slot 4 ?_); (refine arm_box (o := ⟨some 4, _, _, _, _, _⟩) rfl _ _ rfl (clc a L) rfl ?_); intro A v1 Ae hv1 nv1; try simp only [Act.put, List.setIfInBounds_toArray, List.set_cons_zero, List.set_cons_succ])
        | ((with_reducible refine at_slot 5 ?_); (refine arm_box (o := ⟨some 5, _, _, _, _, _⟩) rfl _ _ rfl (clc b M) rfl ?_); intro B v2 Be hv2 nv2; try simp only [Act.put, List.setIfInBounds_toArray, List.set_cons_zero, List.set_cons_succ])
        | ((with_reducible refine at_slot 22 ?_); (refine pause ?_); try simp only [Act.put, List.setIfInBounds_toArray, List.set_cons_zero, List.set_cons_succ]))
      have hbv1 := nv1.below
      have rrv1 : Row v1 A 65 (clc a L) := hv1
      have hbv2 := nv2.below
      have rrv2 : Row v2 B 65 (clc b M) := hv2
      have geA : w.heap.size ≤ A := by have := Ae.out; omega
      clear hv1 nv1 Ae
      have bel_3 : Below w.heap.size w v1 := hbv1
      clear hbv1
      have geB : w.heap.size ≤ B := by have := Be.out; have := bel_3.size; omega
      have ltAB : A < B := by have := Be.out; have := rrv1.lt; omega
      clear hv2 nv2 Be
      have A_4 : Row v2 A 65 (clc a L) := rrv1.old hbv2
      have bel_4 : Below w.heap.size w v2 := below_step bel_3 bel_3.size hbv2
      clear rrv1 bel_3 hbv2
      refine go_on ?_
      go_wp2_with (first
        | ((with_reducible refine at_slot 22 ?_); (refine arm_load (o := ⟨some 22, _, _, _, _, _⟩) rfl _ _ rfl A 0 rfl (acs a) ((c_a a L).range A_4) KA.out ?_); try simp only [Act.put, List.setIfInBounds_toArray, List.set_cons_zero, List.set_cons_succ]))
      refine (CHA.out _ (HKW.out _ bel_4)).mono ?_
      rintro e y5 ⟨rfl, hB⟩
      have A_6 : Row y5 A 65 (clc a L) := A_4.old hB
      have B_6 : Row y5 B 65 (clc b M) := rrv2.old hB
      have bel_6 : Below w.heap.size w y5 := below_step bel_4 bel_4.size hB
      clear A_4 rrv2 bel_4 hB
      go_wp2_with (first
        | ((with_reducible refine at_slot 9 ?_); (refine arm_alloc (o := ⟨some 9, _, _, _, _, _⟩) rfl _ rfl (u8s zh) zH ?_); intro D v7a De hDa nD; try simp only [Act.put, List.setIfInBounds_toArray, List.set_cons_zero, List.set_cons_succ])
        | ((with_reducible refine arm_store (o := ⟨none, _, _, _, _, _⟩) rfl _ _ _ rfl D 0 rfl (u8s da) rfl _ _ hDa (fitH KD.out) (u8s_one _) (szH KD.out) ?_); intro v7 hDb oD sD; try simp only [Act.put, List.setIfInBounds_toArray, List.set_cons_zero, List.set_cons_succ])
        | ((with_reducible refine at_slot 28 ?_); (refine pause ?_); try simp only [Act.put, List.setIfInBounds_toArray, List.set_cons_zero, List.set_cons_succ]))
      have lD : y5.heap.size ≤ D := by have := De.out; omega
      have bD : Below y5.heap.size y5 v7 := below_only nD.below oD lD nD.below.size
      have rrD : Row v7 D 23 (u8s da) := hDb.congr (allH KD.out)
      have geD : w.heap.size ≤ D := Nat.le_trans bel_6.size lD
      clear hDa hDb nD oD sD De lD
      have A_8 : Row v7 A 65 (clc a L) := A_6.old bD
      have B_8 : Row v7 B 65 (clc b M) := B_6.old bD
      have bel_8 : Below w.heap.size w v7 := below_step bel_6 bel_6.size bD
      clear A_6 B_6 bel_6 bD
      refine go_on ?_
      go_wp2_with (first
        | ((with_reducible refine at_slot 28 ?_); (refine arm_load (o := ⟨some 28, _, _, _, _, _⟩) rfl _ _ rfl B 0 rfl (acs b) ((c_a b M).range B_8) KB.out ?_); try simp only [Act.put, List.setIfInBounds_toArray, List.set_cons_zero, List.set_cons_succ]))
      refine (CHB.out _ (HKW.out _ bel_8)).mono ?_
      rintro e y9 ⟨rfl, hB⟩
      have A_10 : Row y9 A 65 (clc a L) := A_8.old hB
      have B_10 : Row y9 B 65 (clc b M) := B_8.old hB
      have D_10 : Row y9 D 23 (u8s da) := rrD.old hB
      have bel_10 : Below w.heap.size w y9 := below_step bel_8 bel_8.size hB
      clear A_8 B_8 rrD bel_8 hB
      go_wp2_with (first
        | ((with_reducible refine at_slot 11 ?_); (refine arm_alloc (o := ⟨some 11, _, _, _, _, _⟩) rfl _ rfl (u8s zh) zH ?_); intro E v11a Ee hEa nE; try simp only [Act.put, List.setIfInBounds_toArray, List.set_cons_zero, List.set_cons_succ])
        | ((with_reducible refine arm_store (o := ⟨none, _, _, _, _, _⟩) rfl _ _ _ rfl E 0 rfl (u8s db) rfl _ _ hEa (fitH KE.out) (u8s_one _) (szH KE.out) ?_); intro v11 hEb oE sE; try simp only [Act.put, List.setIfInBounds_toArray, List.set_cons_zero, List.set_cons_succ]))
      have lE : y9.heap.size ≤ E := by have := Ee.out; omega
      have bE : Below y9.heap.size y9 v11 := below_only nE.below oE lE nE.below.size
      have rrE : Row v11 E 23 (u8s db) := hEb.congr (allH KE.out)
      have geE : w.heap.size ≤ E := Nat.le_trans bel_10.size lE
      have neDE : D ≠ E := by have := D_10.lt; omega
      clear hEa hEb nE oE sE Ee lE
      have A_12 : Row v11 A 65 (clc a L) := A_10.old bE
      have B_12 : Row v11 B 65 (clc b M) := B_10.old bE
      have D_12 : Row v11 D 23 (u8s da) := D_10.old bE
      have bel_12 : Below w.heap.size w v11 := below_step bel_10 bel_10.size bE
      clear A_10 B_10 D_10 bel_10 bE
      refine bodyPost_ret (res_three rfl _ _ _) rfl ?_
      exact ⟨fun _ => rfl, fun h => absurd (meet_true h) (fun h => by have := h.2.2.1.2; have := HN.out; omega), bel_12⟩
    · have d2 : decide ((15 : Int) < p) = false := decide_eq_false hg
      rcases E1 with ⟨rfl, hra⟩ | ⟨rfl, hra⟩
      · rcases E2 with ⟨rfl, hrb⟩ | ⟨rfl, hrb⟩
        · by_cases hab : a = b
          · have HAB := Lib.hid hab
            clear hn hg hab hra hrb
            go_enter Tryd.func25, Tryd.ntmps25
            go_wp2_with (first
              | ((with_reducible refine at_slot 4 ?_); (refine arm_box (o := ⟨some 4, _, _, _, _, _⟩) rfl _ _ rfl (clc a L) rfl ?_); intro A v1 Ae hv1 nv1; try simp only [Act.put, List.setIfInBounds_toArray, List.set_cons_zero, List.set_cons_succ])
              | ((with_reducible refine at_slot 5 ?_); (refine arm_box (o := ⟨some 5, _, _, _, _, _⟩) rfl _ _ rfl (clc b M) rfl ?_); intro B v2 Be hv2 nv2; try simp only [Act.put, List.setIfInBounds_toArray, List.set_cons_zero, List.set_cons_succ])
              | ((with_reducible refine at_slot 22 ?_); (refine pause ?_); try simp only [Act.put, List.setIfInBounds_toArray, List.set_cons_zero, List.set_cons_succ]))
            have hbv1 := nv1.below
            have rrv1 : Row v1 A 65 (clc a L) := hv1
            have hbv2 := nv2.below
            have rrv2 : Row v2 B 65 (clc b M) := hv2
            have geA : w.heap.size ≤ A := by have := Ae.out; omega
            clear hv1 nv1 Ae
            have bel_3 : Below w.heap.size w v1 := hbv1
            clear hbv1
            have geB : w.heap.size ≤ B := by have := Be.out; have := bel_3.size; omega
            have ltAB : A < B := by have := Be.out; have := rrv1.lt; omega
            clear hv2 nv2 Be
            have A_4 : Row v2 A 65 (clc a L) := rrv1.old hbv2
            have bel_4 : Below w.heap.size w v2 := below_step bel_3 bel_3.size hbv2
            clear rrv1 bel_3 hbv2
            refine go_on ?_
            go_wp2_with (first
              | ((with_reducible refine at_slot 22 ?_); (refine arm_load (o := ⟨some 22, _, _, _, _, _⟩) rfl _ _ rfl A 0 rfl (acs a) ((c_a a L).range A_4) KA.out ?_); try simp only [Act.put, List.setIfInBounds_toArray, List.set_cons_zero, List.set_cons_succ]))
            refine (CHA.out _ (HKW.out _ bel_4)).mono ?_
            rintro e y5 ⟨rfl, hB⟩
            have A_6 : Row y5 A 65 (clc a L) := A_4.old hB
            have B_6 : Row y5 B 65 (clc b M) := rrv2.old hB
            have bel_6 : Below w.heap.size w y5 := below_step bel_4 bel_4.size hB
            clear A_4 rrv2 bel_4 hB
            go_wp2_with (first
              | ((with_reducible refine at_slot 9 ?_); (refine arm_alloc (o := ⟨some 9, _, _, _, _, _⟩) rfl _ rfl (u8s zh) zH ?_); intro D v7a De hDa nD; try simp only [Act.put, List.setIfInBounds_toArray, List.set_cons_zero, List.set_cons_succ])
              | ((with_reducible refine arm_store (o := ⟨none, _, _, _, _, _⟩) rfl _ _ _ rfl D 0 rfl (u8s da) rfl _ _ hDa (fitH KD.out) (u8s_one _) (szH KD.out) ?_); intro v7 hDb oD sD; try simp only [Act.put, List.setIfInBounds_toArray, List.set_cons_zero, List.set_cons_succ])
              | ((with_reducible refine at_slot 28 ?_); (refine pause ?_); try simp only [Act.put, List.setIfInBounds_toArray, List.set_cons_zero, List.set_cons_succ]))
            have lD : y5.heap.size ≤ D := by have := De.out; omega
            have bD : Below y5.heap.size y5 v7 := below_only nD.below oD lD nD.below.size
            have rrD : Row v7 D 23 (u8s da) := hDb.congr (allH KD.out)
            have geD : w.heap.size ≤ D := Nat.le_trans bel_6.size lD
            clear hDa hDb nD oD sD De lD
            have A_8 : Row v7 A 65 (clc a L) := A_6.old bD
            have B_8 : Row v7 B 65 (clc b M) := B_6.old bD
            have bel_8 : Below w.heap.size w v7 := below_step bel_6 bel_6.size bD
            clear A_6 B_6 bel_6 bD
            refine go_on ?_
            go_wp2_with (first
              | ((with_reducible refine at_slot 28 ?_); (refine arm_load (o := ⟨some 28, _, _, _, _, _⟩) rfl _ _ rfl B 0 rfl (acs b) ((c_a b M).range B_8) KB.out ?_); try simp only [Act.put, List.setIfInBounds_toArray, List.set_cons_zero, List.set_cons_succ]))
            refine (CHB.out _ (HKW.out _ bel_8)).mono ?_
            rintro e y9 ⟨rfl, hB⟩
            have A_10 : Row y9 A 65 (clc a L) := A_8.old hB
            have B_10 : Row y9 B 65 (clc b M) := B_8.old hB
            have D_10 : Row y9 D 23 (u8s da) := rrD.old hB
            have bel_10 : Below w.heap.size w y9 := below_step bel_8 bel_8.size hB
            clear A_8 B_8 rrD bel_8 hB
            go_wp2_with (first
              | ((with_reducible refine at_slot 11 ?_); (refine arm_alloc (o := ⟨some 11, _, _, _, _, _⟩) rfl _ rfl (u8s zh) zH ?_); intro E v11a Ee hEa nE; try simp only [Act.put, List.setIfInBounds_toArray, List.set_cons_zero, List.set_cons_succ])
              | ((with_reducible refine arm_store (o := ⟨none, _, _, _, _, _⟩) rfl _ _ _ rfl E 0 rfl (u8s db) rfl _ _ hEa (fitH KE.out) (u8s_one _) (szH KE.out) ?_); intro v11 hEb oE sE; try simp only [Act.put, List.setIfInBounds_toArray, List.set_cons_zero, List.set_cons_succ])
              | ((with_reducible refine at_slot 40 ?_); (refine arm_want (.bool false) 40 rfl (by kernel_rfl) (cmp_neq _ _ .i64 (by kernel_rfl) _ _ rfl .i64 (0) (0) rfl rfl false (by decide) _) ?_); try simp only [Act.put, List.setIfInBounds_toArray, List.set_cons_zero, List.set_cons_succ])
              | ((with_reducible refine at_slot 44 ?_); (refine arm_want (.bool false) 44 rfl (by kernel_rfl) (cmp_neq _ _ .i64 (by kernel_rfl) _ _ rfl .i64 (0) (0) rfl rfl false (by decide) _) ?_); try simp only [Act.put, List.setIfInBounds_toArray, List.set_cons_zero, List.set_cons_succ])
              | ((with_reducible refine at_slot 48 ?_); (refine arm_want (.agg (acs a).toArray) 48 rfl (by kernel_rfl) (run_op_load _ _ rfl A 0 rfl (acs a) ((c_a a L).range ((A_10.old nE.below).only oE (by have := Ee.out; have := A_10.lt; omega))) KA.out) ?_); try simp only [Act.put, List.setIfInBounds_toArray, List.set_cons_zero, List.set_cons_succ])
              | ((with_reducible refine at_slot 50 ?_); (refine arm_want (.agg (acs b).toArray) 50 rfl (by kernel_rfl) (run_op_load _ _ rfl B 0 rfl (acs b) ((c_a b M).range ((B_10.old nE.below).only oE (by have := Ee.out; have := B_10.lt; omega))) KB.out) ?_); try simp only [Act.put, List.setIfInBounds_toArray, List.set_cons_zero, List.set_cons_succ])
              | ((with_reducible refine at_slot 51 ?_); (refine arm_want (.bool true) 51 rfl (by kernel_rfl) (run_op_eqlRA _ _ _ rfl a b rfl rfl true (iff_of_true rfl HAB.out) _) ?_); try simp only [Act.put, List.setIfInBounds_toArray, List.set_cons_zero, List.set_cons_succ]))
            have lE : y9.heap.size ≤ E := by have := Ee.out; omega
            have bE : Below y9.heap.size y9 v11 := below_only nE.below oE lE nE.below.size
            have rrE : Row v11 E 23 (u8s db) := hEb.congr (allH KE.out)
            have geE : w.heap.size ≤ E := Nat.le_trans bel_10.size lE
            have neDE : D ≠ E := by have := D_10.lt; omega
            clear hEa hEb nE oE sE Ee lE
            have A_12 : Row v11 A 65 (clc a L) := A_10.old bE
            have B_12 : Row v11 B 65 (clc b M) := B_10.old bE
            have D_12 : Row v11 D 23 (u8s da) := D_10.old bE
            have bel_12 : Below w.heap.size w v11 := below_step bel_10 bel_10.size bE
            clear A_10 B_10 D_10 bel_10 bE
            refine bodyPost_ret (res_three rfl _ _ _) rfl ?_
            exact ⟨fun _ => rfl, fun h => absurd (meet_true h) (fun h => h.2.2.2.2 HAB.out), bel_12⟩
          · have HAB := Lib.hid hab
            obtain ⟨q, rfl⟩ : ∃ q : Nat, p = (q : Int) := ⟨p.toNat, by omega⟩
            have HQ : Hid (q < 16) := Lib.hid (by omega)
            have HRA := Lib.hid hra; have HRB := Lib.hid hrb
            have ga : ansH a = digA a := if_pos hra
            have gb : ansH b = digA b := if_pos hrb
            have HDA2 : Hid (da = digA a) := Lib.hid (HDA.out.trans ga)
            have HDB2 : Hid (db = digA b) := Lib.hid (HDB.out.trans gb)
            obtain ⟨u, hu⟩ : ∃ d, d = leadK q L (digA a) 4 := ⟨_, rfl⟩
            obtain ⟨v, hv⟩ : ∃ d, d = leadK q M (digA b) 4 := ⟨_, rfl⟩
            have KU : Hid (H32 u) := Lib.hid (hu ▸ lead_ok (digA_ok a) 4)
            have KV : Hid (H32 v) := Lib.hid (hv ▸ lead_ok (digA_ok b) 4)
            have CLA : Hid (∀ w0, w0.rangeAt 0 0 (u32s ks) → Calls Tryd.prog 9 #[.int .i64 (q : Int), .agg (u8s da).toArray, .agg (dgC L).toArray] w0 fun e w' => e = .returned (.tuple #[.agg (u8s u).toArray, .int .i64 0]) ∧ Below w0.heap.size w0 w') := Lib.hid fun w0 h => (rlead_any _ L da w0 H4.out KD.out h).mono fun e w' h => ⟨by rw [h.ret, leadI_in HQ.out, pathE_in HQ.out, hu, ← HDA2.out]; rfl, h.bel⟩
            have CLB : Hid (∀ w0, w0.rangeAt 0 0 (u32s ks) → Calls Tryd.prog 9 #[.int .i64 (q : Int), .agg (u8s db).toArray, .agg (dgC M).toArray] w0 fun e w' => e = .returned (.tuple #[.agg (u8s v).toArray, .int .i64 0]) ∧ Below w0.heap.size w0 w') := Lib.hid fun w0 h => (rlead_any _ M db w0 G4.out KE.out h).mono fun e w' h => ⟨by rw [h.ret, leadI_in HQ.out, pathE_in HQ.out, hv, ← HDB2.out]; rfl, h.bel⟩
            have HU := Lib.hid hu; have HV := Lib.hid hv
            have HTN : Hid (((q : Nat) : Int).toNat = q) := Lib.hid (Int.toNat_natCast q)
            have CIA := Lib.hid (fun w0 h => images_any q a L w0 HQ.out HKA.out hra H4.out h)
            have CIB := Lib.hid (fun w0 h => images_any q b M w0 HQ.out HKB.out hrb G4.out h)
            clear hn hg hab hra hrb ga gb hu hv
            by_cases huv : u = v
            · have HUV := Lib.hid huv
              clear huv
              go_enter Tryd.func25, Tryd.ntmps25
              go_wp2_with (first
                | ((with_reducible refine at_slot 4 ?_); (refine arm_box (o := ⟨some 4, _, _, _, _, _⟩) rfl _ _ rfl (clc a L) rfl ?_); intro A v1 Ae hv1 nv1; try simp only [Act.put, List.setIfInBounds_toArray, List.set_cons_zero, List.set_cons_succ])
                | ((with_reducible refine at_slot 5 ?_); (refine arm_box (o := ⟨some 5, _, _, _, _, _⟩) rfl _ _ rfl (clc b M) rfl ?_); intro B v2 Be hv2 nv2; try simp only [Act.put, List.setIfInBounds_toArray, List.set_cons_zero, List.set_cons_succ])
                | ((with_reducible refine at_slot 22 ?_); (refine pause ?_); try simp only [Act.put, List.setIfInBounds_toArray, List.set_cons_zero, List.set_cons_succ]))
              have hbv1 := nv1.below
              have rrv1 : Row v1 A 65 (clc a L) := hv1
              have hbv2 := nv2.below
              have rrv2 : Row v2 B 65 (clc b M) := hv2
              have geA : w.heap.size ≤ A := by have := Ae.out; omega
              clear hv1 nv1 Ae
              have bel_3 : Below w.heap.size w v1 := hbv1
              clear hbv1
              have geB : w.heap.size ≤ B := by have := Be.out; have := bel_3.size; omega
              have ltAB : A < B := by have := Be.out; have := rrv1.lt; omega
              clear hv2 nv2 Be
              have A_4 : Row v2 A 65 (clc a L) := rrv1.old hbv2
              have bel_4 : Below w.heap.size w v2 := below_step bel_3 bel_3.size hbv2
              clear rrv1 bel_3 hbv2
              refine go_on ?_
              go_wp2_with (first
                | ((with_reducible refine at_slot 22 ?_); (refine arm_load (o := ⟨some 22, _, _, _, _, _⟩) rfl _ _ rfl A 0 rfl (acs a) ((c_a a L).range A_4) KA.out ?_); try simp only [Act.put, List.setIfInBounds_toArray, List.set_cons_zero, List.set_cons_succ]))
              refine (CHA.out _ (HKW.out _ bel_4)).mono ?_
              rintro e y5 ⟨rfl, hB⟩
              have A_6 : Row y5 A 65 (clc a L) := A_4.old hB
              have B_6 : Row y5 B 65 (clc b M) := rrv2.old hB
              have bel_6 : Below w.heap.size w y5 := below_step bel_4 bel_4.size hB
              clear A_4 rrv2 bel_4 hB
              go_wp2_with (first
                | ((with_reducible refine at_slot 9 ?_); (refine arm_alloc (o := ⟨some 9, _, _, _, _, _⟩) rfl _ rfl (u8s zh) zH ?_); intro D v7a De hDa nD; try simp only [Act.put, List.setIfInBounds_toArray, List.set_cons_zero, List.set_cons_succ])
                | ((with_reducible refine arm_store (o := ⟨none, _, _, _, _, _⟩) rfl _ _ _ rfl D 0 rfl (u8s da) rfl _ _ hDa (fitH KD.out) (u8s_one _) (szH KD.out) ?_); intro v7 hDb oD sD; try simp only [Act.put, List.setIfInBounds_toArray, List.set_cons_zero, List.set_cons_succ])
                | ((with_reducible refine at_slot 28 ?_); (refine pause ?_); try simp only [Act.put, List.setIfInBounds_toArray, List.set_cons_zero, List.set_cons_succ]))
              have lD : y5.heap.size ≤ D := by have := De.out; omega
              have bD : Below y5.heap.size y5 v7 := below_only nD.below oD lD nD.below.size
              have rrD : Row v7 D 23 (u8s da) := hDb.congr (allH KD.out)
              have geD : w.heap.size ≤ D := Nat.le_trans bel_6.size lD
              clear hDa hDb nD oD sD De lD
              have A_8 : Row v7 A 65 (clc a L) := A_6.old bD
              have B_8 : Row v7 B 65 (clc b M) := B_6.old bD
              have bel_8 : Below w.heap.size w v7 := below_step bel_6 bel_6.size bD
              clear A_6 B_6 bel_6 bD
              refine go_on ?_
              go_wp2_with (first
                | ((with_reducible refine at_slot 28 ?_); (refine arm_load (o := ⟨some 28, _, _, _, _, _⟩) rfl _ _ rfl B 0 rfl (acs b) ((c_a b M).range B_8) KB.out ?_); try simp only [Act.put, List.setIfInBounds_toArray, List.set_cons_zero, List.set_cons_succ]))
              refine (CHB.out _ (HKW.out _ bel_8)).mono ?_
              rintro e y9 ⟨rfl, hB⟩
              have A_10 : Row y9 A 65 (clc a L) := A_8.old hB
              have B_10 : Row y9 B 65 (clc b M) := B_8.old hB
              have D_10 : Row y9 D 23 (u8s da) := rrD.old hB
              have bel_10 : Below w.heap.size w y9 := below_step bel_8 bel_8.size hB
              clear A_8 B_8 rrD bel_8 hB
              go_wp2_with (first
                | ((with_reducible refine at_slot 11 ?_); (refine arm_alloc (o := ⟨some 11, _, _, _, _, _⟩) rfl _ rfl (u8s zh) zH ?_); intro E v11a Ee hEa nE; try simp only [Act.put, List.setIfInBounds_toArray, List.set_cons_zero, List.set_cons_succ])
                | ((with_reducible refine arm_store (o := ⟨none, _, _, _, _, _⟩) rfl _ _ _ rfl E 0 rfl (u8s db) rfl _ _ hEa (fitH KE.out) (u8s_one _) (szH KE.out) ?_); intro v11 hEb oE sE; try simp only [Act.put, List.setIfInBounds_toArray, List.set_cons_zero, List.set_cons_succ])
                | ((with_reducible refine at_slot 40 ?_); (refine arm_want (.bool false) 40 rfl (by kernel_rfl) (cmp_neq _ _ .i64 (by kernel_rfl) _ _ rfl .i64 (0) (0) rfl rfl false (by decide) _) ?_); try simp only [Act.put, List.setIfInBounds_toArray, List.set_cons_zero, List.set_cons_succ])
                | ((with_reducible refine at_slot 44 ?_); (refine arm_want (.bool false) 44 rfl (by kernel_rfl) (cmp_neq _ _ .i64 (by kernel_rfl) _ _ rfl .i64 (0) (0) rfl rfl false (by decide) _) ?_); try simp only [Act.put, List.setIfInBounds_toArray, List.set_cons_zero, List.set_cons_succ])
                | ((with_reducible refine at_slot 48 ?_); (refine arm_want (.agg (acs a).toArray) 48 rfl (by kernel_rfl) (run_op_load _ _ rfl A 0 rfl (acs a) ((c_a a L).range ((A_10.old nE.below).only oE (by have := Ee.out; have := A_10.lt; omega))) KA.out) ?_); try simp only [Act.put, List.setIfInBounds_toArray, List.set_cons_zero, List.set_cons_succ])
                | ((with_reducible refine at_slot 50 ?_); (refine arm_want (.agg (acs b).toArray) 50 rfl (by kernel_rfl) (run_op_load _ _ rfl B 0 rfl (acs b) ((c_a b M).range ((B_10.old nE.below).only oE (by have := Ee.out; have := B_10.lt; omega))) KB.out) ?_); try simp only [Act.put, List.setIfInBounds_toArray, List.set_cons_zero, List.set_cons_succ])
                | ((with_reducible refine at_slot 51 ?_); (refine arm_want (.bool false) 51 rfl (by kernel_rfl) (run_op_eqlRA _ _ _ rfl a b rfl rfl false (iff_of_false Bool.false_ne_true HAB.out) _) ?_); try simp only [Act.put, List.setIfInBounds_toArray, List.set_cons_zero, List.set_cons_succ])
                | ((with_reducible refine at_slot 55 ?_); (refine arm_load (o := ⟨some 55, _, _, _, _, _⟩) rfl _ _ rfl D 0 rfl (u8s da) ((Has.refl _).range ((D_10.old nE.below).only oE (by have := Ee.out; have := D_10.lt; omega))) (szH KD.out) ?_); try simp only [Act.put, List.setIfInBounds_toArray, List.set_cons_zero, List.set_cons_succ])
                | ((with_reducible refine at_slot 57 ?_); (refine arm_load (o := ⟨some 57, _, _, _, _, _⟩) rfl _ _ rfl A 3 rfl (dgC L) ((c_p a L).range ((A_10.old nE.below).only oE (by have := Ee.out; have := A_10.lt; omega))) SPL.out ?_); try simp only [Act.put, List.setIfInBounds_toArray, List.set_cons_zero, List.set_cons_succ]))
              have lE : y9.heap.size ≤ E := by have := Ee.out; omega
              have bE : Below y9.heap.size y9 v11 := below_only nE.below oE lE nE.below.size
              have rrE : Row v11 E 23 (u8s db) := hEb.congr (allH KE.out)
              have geE : w.heap.size ≤ E := Nat.le_trans bel_10.size lE
              have neDE : D ≠ E := by have := D_10.lt; omega
              clear hEa hEb nE oE sE Ee lE
              have A_12 : Row v11 A 65 (clc a L) := A_10.old bE
              have B_12 : Row v11 B 65 (clc b M) := B_10.old bE
              have D_12 : Row v11 D 23 (u8s da) := D_10.old bE
              have bel_12 : Below w.heap.size w v11 := below_step bel_10 bel_10.size bE
              clear A_10 B_10 D_10 bel_10 bE
              refine (CLA.out _ (HKW.out _ bel_12)).mono ?_
              rintro e y13 ⟨rfl, hB⟩
              have A_14 : Row y13 A 65 (clc a L) := A_12.old hB
              have B_14 : Row y13 B 65 (clc b M) := B_12.old hB
              have D_14 : Row y13 D 23 (u8s da) := D_12.old hB
              have E_14 : Row y13 E 23 (u8s db) := rrE.old hB
              have bel_14 : Below w.heap.size w y13 := below_step bel_12 bel_12.size hB
              clear A_12 B_12 D_12 rrE bel_12 hB
              go_wp2_with (first
                | ((with_reducible refine at_slot 13 ?_); (refine arm_alloc (o := ⟨some 13, _, _, _, _, _⟩) rfl _ rfl (u8s zh) zH ?_); intro U v15a Ue hUa nU; try simp only [Act.put, List.setIfInBounds_toArray, List.set_cons_zero, List.set_cons_succ])
                | ((with_reducible refine arm_store (o := ⟨none, _, _, _, _, _⟩) rfl _ _ _ rfl U 0 rfl (u8s u) rfl _ _ hUa (fitH KU.out) (u8s_one _) (szH KU.out) ?_); intro v15 hUb oU sU; try simp only [Act.put, List.setIfInBounds_toArray, List.set_cons_zero, List.set_cons_succ])
                | ((with_reducible refine at_slot 63 ?_); (refine arm_load (o := ⟨some 63, _, _, _, _, _⟩) rfl _ _ rfl E 0 rfl (u8s db) ((Has.refl _).range ((E_14.old nU.below).only oU (by have := Ue.out; have := E_14.lt; omega))) (szH KE.out) ?_); try simp only [Act.put, List.setIfInBounds_toArray, List.set_cons_zero, List.set_cons_succ])
                | ((with_reducible refine at_slot 65 ?_); (refine arm_load (o := ⟨some 65, _, _, _, _, _⟩) rfl _ _ rfl B 3 rfl (dgC M) ((c_p b M).range ((B_14.old nU.below).only oU (by have := Ue.out; have := B_14.lt; omega))) SPM.out ?_); try simp only [Act.put, List.setIfInBounds_toArray, List.set_cons_zero, List.set_cons_succ]))
              have lU : y13.heap.size ≤ U := by have := Ue.out; omega
              have bU : Below y13.heap.size y13 v15 := below_only nU.below oU lU nU.below.size
              have rrU : Row v15 U 23 (u8s u) := hUb.congr (allH KU.out)
              have geU : w.heap.size ≤ U := Nat.le_trans bel_14.size lU
              clear hUa hUb nU oU sU Ue lU
              have A_16 : Row v15 A 65 (clc a L) := A_14.old bU
              have B_16 : Row v15 B 65 (clc b M) := B_14.old bU
              have D_16 : Row v15 D 23 (u8s da) := D_14.old bU
              have E_16 : Row v15 E 23 (u8s db) := E_14.old bU
              have bel_16 : Below w.heap.size w v15 := below_step bel_14 bel_14.size bU
              clear A_14 B_14 D_14 E_14 bel_14 bU
              refine (CLB.out _ (HKW.out _ bel_16)).mono ?_
              rintro e y17 ⟨rfl, hB⟩
              have A_18 : Row y17 A 65 (clc a L) := A_16.old hB
              have B_18 : Row y17 B 65 (clc b M) := B_16.old hB
              have D_18 : Row y17 D 23 (u8s da) := D_16.old hB
              have E_18 : Row y17 E 23 (u8s db) := E_16.old hB
              have U_18 : Row y17 U 23 (u8s u) := rrU.old hB
              have bel_18 : Below w.heap.size w y17 := below_step bel_16 bel_16.size hB
              clear A_16 B_16 D_16 E_16 rrU bel_16 hB
              go_wp2_with (first
                | ((with_reducible refine at_slot 15 ?_); (refine arm_alloc (o := ⟨some 15, _, _, _, _, _⟩) rfl _ rfl (u8s zh) zH ?_); intro V v19a Ve hVa nV; try simp only [Act.put, List.setIfInBounds_toArray, List.set_cons_zero, List.set_cons_succ])
                | ((with_reducible refine arm_store (o := ⟨none, _, _, _, _, _⟩) rfl _ _ _ rfl V 0 rfl (u8s v) rfl _ _ hVa (fitH KV.out) (u8s_one _) (szH KV.out) ?_); intro v19 hVb oV sV; try simp only [Act.put, List.setIfInBounds_toArray, List.set_cons_zero, List.set_cons_succ])
                | ((with_reducible refine at_slot 69 ?_); (refine arm_load (o := ⟨some 69, _, _, _, _, _⟩) rfl _ _ rfl U 0 rfl (u8s u) ((Has.refl _).range ((U_18.old nV.below).only oV (by have := Ve.out; have := U_18.lt; omega))) (szH KU.out) ?_); try simp only [Act.put, List.setIfInBounds_toArray, List.set_cons_zero, List.set_cons_succ])
                | ((with_reducible refine at_slot 70 ?_); (refine arm_load (o := ⟨some 70, _, _, _, _, _⟩) rfl _ _ rfl V 0 rfl (u8s v) ((Has.refl _).range (hVb.congr (allH KV.out))) (szH KV.out) ?_); try simp only [Act.put, List.setIfInBounds_toArray, List.set_cons_zero, List.set_cons_succ])
                | ((with_reducible refine at_slot 71 ?_); (refine arm_want (.bool false) 71 rfl (by kernel_rfl) (run_op_neqD KU.out KV.out _ _ _ rfl rfl rfl true (iff_of_true rfl HUV.out) _) ?_); try simp only [Act.put, List.setIfInBounds_toArray, List.set_cons_zero, List.set_cons_succ])
                | ((with_reducible refine at_slot 73 ?_); (refine arm_load (o := ⟨some 73, _, _, _, _, _⟩) rfl _ _ rfl A 0 rfl (clc a L) ((Has.refl _).range ((A_18.old nV.below).only oV (by have := Ve.out; have := A_18.lt; omega))) SA.out ?_); try simp only [Act.put, List.setIfInBounds_toArray, List.set_cons_zero, List.set_cons_succ]))
              have lV : y17.heap.size ≤ V := by have := Ve.out; omega
              have bV : Below y17.heap.size y17 v19 := below_only nV.below oV lV nV.below.size
              have rrV : Row v19 V 23 (u8s v) := hVb.congr (allH KV.out)
              have geV : w.heap.size ≤ V := Nat.le_trans bel_18.size lV
              clear hVa hVb nV oV sV Ve lV
              have A_20 : Row v19 A 65 (clc a L) := A_18.old bV
              have B_20 : Row v19 B 65 (clc b M) := B_18.old bV
              have D_20 : Row v19 D 23 (u8s da) := D_18.old bV
              have E_20 : Row v19 E 23 (u8s db) := E_18.old bV
              have U_20 : Row v19 U 23 (u8s u) := U_18.old bV
              have bel_20 : Below w.heap.size w v19 := below_step bel_18 bel_18.size bV
              clear A_18 B_18 D_18 E_18 U_18 bel_18 bV
              refine (CIA.out _ (HKW.out _ bel_20)).mono ?_
              rintro e y21 ⟨⟨P1, cc1, rfl, hP1⟩, hB⟩
              have A_22 : Row y21 A 65 (clc a L) := A_20.old hB
              have B_22 : Row y21 B 65 (clc b M) := B_20.old hB
              have D_22 : Row y21 D 23 (u8s da) := D_20.old hB
              have E_22 : Row y21 E 23 (u8s db) := E_20.old hB
              have U_22 : Row y21 U 23 (u8s u) := U_20.old hB
              have V_22 : Row y21 V 23 (u8s v) := rrV.old hB
              have bel_22 : Below w.heap.size w y21 := below_step bel_20 bel_20.size hB
              clear A_20 B_20 D_20 E_20 U_20 rrV bel_20 hB
              go_wp2_with (first
                | ((with_reducible refine at_slot 76 ?_); (refine arm_load (o := ⟨some 76, _, _, _, _, _⟩) rfl _ _ rfl B 0 rfl (clc b M) ((Has.refl _).range B_22) SB.out ?_); try simp only [Act.put, List.setIfInBounds_toArray, List.set_cons_zero, List.set_cons_succ]))
              refine (CIB.out _ (HKW.out _ bel_22)).mono ?_
              rintro e y23 ⟨⟨P2, cc2, rfl, hP2⟩, hB⟩
              have A_24 : Row y23 A 65 (clc a L) := A_22.old hB
              have B_24 : Row y23 B 65 (clc b M) := B_22.old hB
              have D_24 : Row y23 D 23 (u8s da) := D_22.old hB
              have E_24 : Row y23 E 23 (u8s db) := E_22.old hB
              have U_24 : Row y23 U 23 (u8s u) := U_22.old hB
              have V_24 : Row y23 V 23 (u8s v) := V_22.old hB
              have P1_24 : Parts y23 P1 (imgL q L a) := hP1.below hB
              have bel_24 : Below w.heap.size w y23 := below_step bel_22 bel_22.size hB
              clear A_22 B_22 D_22 E_22 U_22 V_22 hP1 bel_22 hB
              go_wp2_with fail
              try simp only [Act.put]
              have h0 : RcRel w P1 P2 q L M a b (.int .i64 0) y23 := ⟨⟨0, by omega, rfl, fun j hj => by omega⟩, P1_24, hP2, bel_24⟩
              clear A_24 B_24 D_24 E_24 U_24 V_24 P1_24 hP2 bel_24 CLA CLB CIA CIB CHA CHB
              go_loopw [19] (fun i wr => RcRel w P1 P2 q L M a b i wr) (fun i _ => 5 - (intOf i).toNat)
              case atStart => exact h0
              case round =>
                clear h0
                obtain ⟨⟨k, hk, rfl, hne⟩, hP1, hP2, bel⟩ := hrel
                have HNE := Lib.hid hne
                by_cases hlt : k < 5
                · have ik : (k : Int) < 5 := by omega
                  have HLT := Lib.hid hlt
                  obtain ⟨g1, o1, rfl, hg1, hrows1⟩ := hP1.at_ (by show 0 < 5; omega)
                  obtain ⟨q1, c1, hc1, hm1⟩ := hrows1 k hlt
                  rw [imgL_get q L a hlt] at hc1 hm1
                  obtain ⟨b1, hb1⟩ : ∃ x, x = imgK q L a k := ⟨_, rfl⟩
                  obtain ⟨d1, hd1⟩ : ∃ x, x = leadK q L (digA a) k := ⟨_, rfl⟩
                  have HDG1 : Hid (digest b1 = d1) := Lib.hid (by rw [hb1, hd1, img_digest])
                  have KD1 : Hid (H32 d1) := Lib.hid (hd1 ▸ lead_ok (digA_ok a) k)
                  have HLK1 : Hid (AllLt 256 b1) := Lib.hid (hb1 ▸ imgK_lt H4.out HRA.out k (by omega))
                  have HLL1 : Hid (b1.length ≤ 83) := Lib.hid (hb1 ▸ imgK_len H4.out HRA.out k (by omega))
                  rw [← hb1] at hc1 hm1
                  have HCE1 : Hid (∀ w', Below wr.heap.size wr w' → w'.cell? ⟨g1, o1 + k, none⟩ = some (.slice q1 b1.length c1)) := Lib.hid fun w' hb => (hb.cell (p := ⟨g1, o1 + k, none⟩) hg1).trans hc1
                  have HCM1 : Hid (∀ w', Below wr.heap.size wr w' → Came w' q1 c1 b1) := Lib.hid fun w' hb => hm1.below hb
                  have COF1 := Lib.hid (fun w0 (hc : Came w0 q1 c1 b1) h => refOf_any b1 q1 c1 w0 HLK1.out (Nat.le_trans HLL1.out (by omega)) hc.cap_ hc.nil_ hc.at_ h)
                  rw [HDG1.out] at COF1
                  have HB1 := Lib.hid hb1; have HD1 := Lib.hid hd1
                  obtain ⟨g2, o2, rfl, hg2, hrows2⟩ := hP2.at_ (by show 0 < 5; omega)
                  obtain ⟨q2, c2, hc2, hm2⟩ := hrows2 k hlt
                  rw [imgL_get q M b hlt] at hc2 hm2
                  obtain ⟨b2, hb2⟩ : ∃ x, x = imgK q M b k := ⟨_, rfl⟩
                  obtain ⟨d2, hd2⟩ : ∃ x, x = leadK q M (digA b) k := ⟨_, rfl⟩
                  have HDG2 : Hid (digest b2 = d2) := Lib.hid (by rw [hb2, hd2, img_digest])
                  have KD2 : Hid (H32 d2) := Lib.hid (hd2 ▸ lead_ok (digA_ok b) k)
                  have HLK2 : Hid (AllLt 256 b2) := Lib.hid (hb2 ▸ imgK_lt G4.out HRB.out k (by omega))
                  have HLL2 : Hid (b2.length ≤ 83) := Lib.hid (hb2 ▸ imgK_len G4.out HRB.out k (by omega))
                  rw [← hb2] at hc2 hm2
                  have HCE2 : Hid (∀ w', Below wr.heap.size wr w' → w'.cell? ⟨g2, o2 + k, none⟩ = some (.slice q2 b2.length c2)) := Lib.hid fun w' hb => (hb.cell (p := ⟨g2, o2 + k, none⟩) hg2).trans hc2
                  have HCM2 : Hid (∀ w', Below wr.heap.size wr w' → Came w' q2 c2 b2) := Lib.hid fun w' hb => hm2.below hb
                  have COF2 := Lib.hid (fun w0 (hc : Came w0 q2 c2 b2) h => refOf_any b2 q2 c2 w0 HLK2.out (Nat.le_trans HLL2.out (by omega)) hc.cap_ hc.nil_ hc.at_ h)
                  rw [HDG2.out] at COF2
                  have HB2 := Lib.hid hb2; have HD2 := Lib.hid hd2
                  have HKW2 : Hid (∀ w', Below wr.heap.size wr w' → w'.rangeAt 0 0 (u32s ks)) := Lib.hid fun w' hb => HKW.out _ (below_step bel bel.size hb)
                  have HIN : Hid (¬ b1 = b2) := Lib.hid (by rw [HB1.out, HB2.out]; exact img_ne H4.out G4.out HKA.out HKB.out HRA.out HRB.out HAB.out k (by omega) HNE.out)
                  have HP1 := Lib.hid hP1; have HP2 := Lib.hid hP2
                  have CSM : Hid (∀ w', Below wr.heap.size wr w' → Calls Tryd.prog 12 #[.slice q1 b1.length c1, .slice q2 b2.length c2] w' fun e w2 => e = .returned (.bool false) ∧ Below w'.heap.size w' w2) := Lib.hid fun w' hb => by
                    have h := Tg.same_any b1 b2 q1 q2 c1 c2 w' (HCM1.out w' hb).rd (HCM2.out w' hb).rd (Nat.le_trans HLL1.out (by omega)) (Nat.le_trans HLL2.out (by omega))
                    rw [decide_eq_false HIN.out] at h
                    exact h
                  clear hrows1 hrows2 hc1 hc2 hm1 hm2 hb1 hb2 hd1 hd2 hne hP1 hP2 hg1 hg2
                  go_wp2_with fail
                  refine wp_region_held (S := fun w' => Below wr.heap.size wr w' ∧ True) (by kernel_rfl) ?_
                  change wpAnyH _ _ _ _ _ _ _ _ wr.drew
                  have hd301 : Below wr.heap.size wr wr.drew := (Below.refl _ _).drew
                  have bel_302 : Below wr.heap.size wr wr.drew := hd301
                  clear hd301
                  generalize wr.drew = yz301 at bel_302 ⊢
                  refine h_take 0 (.slice (some ⟨g1, o1, none⟩) 5 cc1) rfl 84 rfl (by kernel_rfl) (by kernel_rfl) (by kernel_rfl) (by kernel_rfl) (fun _ _ _ h => h) (fun w' _ => by kernel_rfl) ⟨bel_302, trivial⟩ ?_
                  simp only [Act.put, List.setIfInBounds_toArray, List.set_cons_zero, List.set_cons_succ]
                  refine h_take 1 (.int .i64 (k : Int)) rfl 85 rfl (by kernel_rfl) (by kernel_rfl) (by kernel_rfl) (by kernel_rfl) (fun _ _ _ h => h) (fun w' _ => by kernel_rfl) ⟨bel_302, trivial⟩ ?_
                  simp only [Act.put, List.setIfInBounds_toArray, List.set_cons_zero, List.set_cons_succ]
                  refine h_take 2 (.pointer (some ⟨g1, o1 + k, none⟩)) rfl 86 rfl (by kernel_rfl) (by kernel_rfl) (by kernel_rfl) (by kernel_rfl) (fun _ _ _ h => h) (fun w' _ => run_op_idxS _ _ _ rfl 30 (by kernel_rfl) (by kernel_rfl) g1 o1 5 cc1 rfl .i64 _ rfl k rfl HLT.out w') ⟨bel_302, trivial⟩ ?_
                  simp only [Act.put, List.setIfInBounds_toArray, List.set_cons_zero, List.set_cons_succ]
                  refine h_take 3 (.slice q1 b1.length c1) rfl 87 rfl (by kernel_rfl) (by kernel_rfl) (by kernel_rfl) (by kernel_rfl) (fun _ _ _ h => h) (fun w' hw => run_op_load1 _ _ rfl (.slice 5) (by kernel_rfl) rfl ⟨g1, o1 + k, none⟩ rfl _ (HCE1.out w' hw.1)) ⟨bel_302, trivial⟩ ?_
                  simp only [Act.put, List.setIfInBounds_toArray, List.set_cons_zero, List.set_cons_succ]
                  refine h_take 5 (.slice (some ⟨g2, o2, none⟩) 5 cc2) rfl 89 rfl (by kernel_rfl) (by kernel_rfl) (by kernel_rfl) (by kernel_rfl) (fun _ _ _ h => h) (fun w' _ => by kernel_rfl) ⟨bel_302, trivial⟩ ?_
                  simp only [Act.put, List.setIfInBounds_toArray, List.set_cons_zero, List.set_cons_succ]
                  refine h_take 6 (.int .i64 (k : Int)) rfl 90 rfl (by kernel_rfl) (by kernel_rfl) (by kernel_rfl) (by kernel_rfl) (fun _ _ _ h => h) (fun w' _ => by kernel_rfl) ⟨bel_302, trivial⟩ ?_
                  simp only [Act.put, List.setIfInBounds_toArray, List.set_cons_zero, List.set_cons_succ]
                  refine h_take 7 (.pointer (some ⟨g2, o2 + k, none⟩)) rfl 91 rfl (by kernel_rfl) (by kernel_rfl) (by kernel_rfl) (by kernel_rfl) (fun _ _ _ h => h) (fun w' _ => run_op_idxS _ _ _ rfl 30 (by kernel_rfl) (by kernel_rfl) g2 o2 5 cc2 rfl .i64 _ rfl k rfl HLT.out w') ⟨bel_302, trivial⟩ ?_
                  simp only [Act.put, List.setIfInBounds_toArray, List.set_cons_zero, List.set_cons_succ]
                  refine h_take 8 (.slice q2 b2.length c2) rfl 92 rfl (by kernel_rfl) (by kernel_rfl) (by kernel_rfl) (by kernel_rfl) (fun _ _ _ h => h) (fun w' hw => run_op_load1 _ _ rfl (.slice 5) (by kernel_rfl) rfl ⟨g2, o2 + k, none⟩ rfl _ (HCE2.out w' hw.1)) ⟨bel_302, trivial⟩ ?_
                  simp only [Act.put, List.setIfInBounds_toArray, List.set_cons_zero, List.set_cons_succ]
                  refine h_one (i := 4) (by kernel_rfl) (o_call rfl 88 rfl (by kernel_rfl) (run_op_call 42 _ _ rfl #[.slice q1 b1.length c1] (by simp only [List.map_toArray, List.map_cons, List.map_nil]; rfl) Tryd.func42 (by kernel_rfl) (by kernel_rfl) _) (COF1.out _ (HCM1.out _ bel_302) (HKW2.out _ bel_302)) ?_)
                  rintro e y303 ⟨rfl, hB⟩
                  have bel_304 : Below wr.heap.size wr y303 := below_step bel_302 bel_302.size hB
                  clear bel_302 hB
                  refine ⟨_, rfl, ⟨bel_304, trivial⟩, ?_⟩
                  simp only [Act.put, List.setIfInBounds_toArray, List.set_cons_zero, List.set_cons_succ]
                  refine h_one (i := 9) (by kernel_rfl) (o_call rfl 93 rfl (by kernel_rfl) (run_op_call 42 _ _ rfl #[.slice q2 b2.length c2] (by simp only [List.map_toArray, List.map_cons, List.map_nil]; rfl) Tryd.func42 (by kernel_rfl) (by kernel_rfl) _) (COF2.out _ (HCM2.out _ bel_304) (HKW2.out _ bel_304)) ?_)
                  rintro e y305 ⟨rfl, hB⟩
                  have bel_306 : Below wr.heap.size wr y305 := below_step bel_304 bel_304.size hB
                  clear bel_304 hB
                  refine ⟨_, rfl, ⟨bel_306, trivial⟩, ?_⟩
                  simp only [Act.put, List.setIfInBounds_toArray, List.set_cons_zero, List.set_cons_succ]
                  by_cases hd : d1 = d2
                  · have HEQ := Lib.hid hd
                    clear hd
                    refine h_take 10 (.bool true) rfl 94 rfl (by kernel_rfl) (by kernel_rfl) (by kernel_rfl) (by kernel_rfl) (fun _ _ _ h => h) (fun w' _ => run_op_eqlD22 KD1.out KD2.out _ _ _ rfl rfl rfl true (iff_of_true rfl HEQ.out) w') ⟨bel_306, trivial⟩ ?_
                    simp only [Act.put, List.setIfInBounds_toArray, List.set_cons_zero, List.set_cons_succ]
                    refine h_take 11 (.bool true) rfl 95 rfl (by kernel_rfl) (by kernel_rfl) (by kernel_rfl) (by kernel_rfl) (fun _ _ _ h => h) (fun w' _ => by kernel_rfl) ⟨bel_306, trivial⟩ ?_
                    simp only [Act.put, List.setIfInBounds_toArray, List.set_cons_zero, List.set_cons_succ]
                    refine h_take 12 (.slice (some ⟨g1, o1, none⟩) 5 cc1) rfl 96 rfl (by kernel_rfl) (by kernel_rfl) (by kernel_rfl) (by kernel_rfl) (fun _ _ _ h => h) (fun w' _ => by kernel_rfl) ⟨bel_306, trivial⟩ ?_
                    simp only [Act.put, List.setIfInBounds_toArray, List.set_cons_zero, List.set_cons_succ]
                    refine h_take 13 (.int .i64 (k : Int)) rfl 97 rfl (by kernel_rfl) (by kernel_rfl) (by kernel_rfl) (by kernel_rfl) (fun _ _ _ h => h) (fun w' _ => by kernel_rfl) ⟨bel_306, trivial⟩ ?_
                    simp only [Act.put, List.setIfInBounds_toArray, List.set_cons_zero, List.set_cons_succ]
                    refine h_take 14 (.pointer (some ⟨g1, o1 + k, none⟩)) rfl 98 rfl (by kernel_rfl) (by kernel_rfl) (by kernel_rfl) (by kernel_rfl) (fun _ _ _ h => h) (fun w' _ => run_op_idxS _ _ _ rfl 30 (by kernel_rfl) (by kernel_rfl) g1 o1 5 cc1 rfl .i64 _ rfl k rfl HLT.out w') ⟨bel_306, trivial⟩ ?_
                    simp only [Act.put, List.setIfInBounds_toArray, List.set_cons_zero, List.set_cons_succ]
                    refine h_take 15 (.slice q1 b1.length c1) rfl 99 rfl (by kernel_rfl) (by kernel_rfl) (by kernel_rfl) (by kernel_rfl) (fun _ _ _ h => h) (fun w' hw => run_op_load1 _ _ rfl (.slice 5) (by kernel_rfl) rfl ⟨g1, o1 + k, none⟩ rfl _ (HCE1.out w' hw.1)) ⟨bel_306, trivial⟩ ?_
                    simp only [Act.put, List.setIfInBounds_toArray, List.set_cons_zero, List.set_cons_succ]
                    refine h_take 16 (.slice (some ⟨g2, o2, none⟩) 5 cc2) rfl 100 rfl (by kernel_rfl) (by kernel_rfl) (by kernel_rfl) (by kernel_rfl) (fun _ _ _ h => h) (fun w' _ => by kernel_rfl) ⟨bel_306, trivial⟩ ?_
                    simp only [Act.put, List.setIfInBounds_toArray, List.set_cons_zero, List.set_cons_succ]
                    refine h_take 17 (.int .i64 (k : Int)) rfl 101 rfl (by kernel_rfl) (by kernel_rfl) (by kernel_rfl) (by kernel_rfl) (fun _ _ _ h => h) (fun w' _ => by kernel_rfl) ⟨bel_306, trivial⟩ ?_
                    simp only [Act.put, List.setIfInBounds_toArray, List.set_cons_zero, List.set_cons_succ]
                    refine h_take 18 (.pointer (some ⟨g2, o2 + k, none⟩)) rfl 102 rfl (by kernel_rfl) (by kernel_rfl) (by kernel_rfl) (by kernel_rfl) (fun _ _ _ h => h) (fun w' _ => run_op_idxS _ _ _ rfl 30 (by kernel_rfl) (by kernel_rfl) g2 o2 5 cc2 rfl .i64 _ rfl k rfl HLT.out w') ⟨bel_306, trivial⟩ ?_
                    simp only [Act.put, List.setIfInBounds_toArray, List.set_cons_zero, List.set_cons_succ]
                    refine h_take 19 (.slice q2 b2.length c2) rfl 103 rfl (by kernel_rfl) (by kernel_rfl) (by kernel_rfl) (by kernel_rfl) (fun _ _ _ h => h) (fun w' hw => run_op_load1 _ _ rfl (.slice 5) (by kernel_rfl) rfl ⟨g2, o2 + k, none⟩ rfl _ (HCE2.out w' hw.1)) ⟨bel_306, trivial⟩ ?_
                    simp only [Act.put, List.setIfInBounds_toArray, List.set_cons_zero, List.set_cons_succ]
                    refine h_one (i := 20) (by kernel_rfl) (o_call rfl 104 rfl (by kernel_rfl) (run_op_call 12 _ _ rfl #[.slice q1 b1.length c1, .slice q2 b2.length c2] (by simp only [List.map_toArray, List.map_cons, List.map_nil]; rfl) Tryd.func12 (by kernel_rfl) (by kernel_rfl) _) (CSM.out _ bel_306) ?_)
                    rintro e y307 ⟨rfl, hB⟩
                    have bel_308 : Below wr.heap.size wr y307 := below_step bel_306 bel_306.size hB
                    clear bel_306 hB
                    refine ⟨_, rfl, ⟨bel_308, trivial⟩, ?_⟩
                    simp only [Act.put, List.setIfInBounds_toArray, List.set_cons_zero, List.set_cons_succ]
                    refine h_take 21 (.bool true) rfl 105 rfl (by kernel_rfl) (by kernel_rfl) (by kernel_rfl) (by kernel_rfl) (fun _ _ _ h => h) (fun w' _ => by kernel_rfl) ⟨bel_308, trivial⟩ ?_
                    simp only [Act.put, List.setIfInBounds_toArray, List.set_cons_zero, List.set_cons_succ]
                    refine h_take 22 (.bool true) rfl 106 rfl (by kernel_rfl) (by kernel_rfl) (by kernel_rfl) (by kernel_rfl) (fun _ _ _ h => h) (fun w' _ => by kernel_rfl) ⟨bel_308, trivial⟩ ?_
                    simp only [Act.put, List.setIfInBounds_toArray, List.set_cons_zero, List.set_cons_succ]
                    refine wpAnyH_done (by kernel_rfl) ?_ _
                    go_wp2_with fail
                    refine wp_region_held (S := fun w' => Below wr.heap.size wr w' ∧ True) (by kernel_rfl) ?_
                    change wpAnyH _ _ _ _ _ _ _ _ y307.drew
                    have hd309 : Below y307.heap.size y307 y307.drew := (Below.refl _ _).drew
                    have bel_310 : Below wr.heap.size wr y307.drew := below_step bel_308 bel_308.size hd309
                    clear bel_308 hd309
                    generalize y307.drew = yz309 at bel_310 ⊢
                    refine h_take 0 (.slice (some ⟨g1, o1, none⟩) 5 cc1) rfl 107 rfl (by kernel_rfl) (by kernel_rfl) (by kernel_rfl) (by kernel_rfl) (fun _ _ _ h => h) (fun w' _ => by kernel_rfl) ⟨bel_310, trivial⟩ ?_
                    simp only [Act.put, List.setIfInBounds_toArray, List.set_cons_zero, List.set_cons_succ]
                    refine h_take 1 (.int .i64 (k : Int)) rfl 108 rfl (by kernel_rfl) (by kernel_rfl) (by kernel_rfl) (by kernel_rfl) (fun _ _ _ h => h) (fun w' _ => by kernel_rfl) ⟨bel_310, trivial⟩ ?_
                    simp only [Act.put, List.setIfInBounds_toArray, List.set_cons_zero, List.set_cons_succ]
                    refine h_take 2 (.pointer (some ⟨g1, o1 + k, none⟩)) rfl 109 rfl (by kernel_rfl) (by kernel_rfl) (by kernel_rfl) (by kernel_rfl) (fun _ _ _ h => h) (fun w' _ => run_op_idxS _ _ _ rfl 30 (by kernel_rfl) (by kernel_rfl) g1 o1 5 cc1 rfl .i64 _ rfl k rfl HLT.out w') ⟨bel_310, trivial⟩ ?_
                    simp only [Act.put, List.setIfInBounds_toArray, List.set_cons_zero, List.set_cons_succ]
                    refine h_take 3 (.slice q1 b1.length c1) rfl 110 rfl (by kernel_rfl) (by kernel_rfl) (by kernel_rfl) (by kernel_rfl) (fun _ _ _ h => h) (fun w' hw => run_op_load1 _ _ rfl (.slice 5) (by kernel_rfl) rfl ⟨g1, o1 + k, none⟩ rfl _ (HCE1.out w' hw.1)) ⟨bel_310, trivial⟩ ?_
                    simp only [Act.put, List.setIfInBounds_toArray, List.set_cons_zero, List.set_cons_succ]
                    refine h_take 4 (.slice (some ⟨g2, o2, none⟩) 5 cc2) rfl 111 rfl (by kernel_rfl) (by kernel_rfl) (by kernel_rfl) (by kernel_rfl) (fun _ _ _ h => h) (fun w' _ => by kernel_rfl) ⟨bel_310, trivial⟩ ?_
                    simp only [Act.put, List.setIfInBounds_toArray, List.set_cons_zero, List.set_cons_succ]
                    refine h_take 5 (.int .i64 (k : Int)) rfl 112 rfl (by kernel_rfl) (by kernel_rfl) (by kernel_rfl) (by kernel_rfl) (fun _ _ _ h => h) (fun w' _ => by kernel_rfl) ⟨bel_310, trivial⟩ ?_
                    simp only [Act.put, List.setIfInBounds_toArray, List.set_cons_zero, List.set_cons_succ]
                    refine h_take 6 (.pointer (some ⟨g2, o2 + k, none⟩)) rfl 113 rfl (by kernel_rfl) (by kernel_rfl) (by kernel_rfl) (by kernel_rfl) (fun _ _ _ h => h) (fun w' _ => run_op_idxS _ _ _ rfl 30 (by kernel_rfl) (by kernel_rfl) g2 o2 5 cc2 rfl .i64 _ rfl k rfl HLT.out w') ⟨bel_310, trivial⟩ ?_
                    simp only [Act.put, List.setIfInBounds_toArray, List.set_cons_zero, List.set_cons_succ]
                    refine h_take 7 (.slice q2 b2.length c2) rfl 114 rfl (by kernel_rfl) (by kernel_rfl) (by kernel_rfl) (by kernel_rfl) (fun _ _ _ h => h) (fun w' hw => run_op_load1 _ _ rfl (.slice 5) (by kernel_rfl) rfl ⟨g2, o2 + k, none⟩ rfl _ (HCE2.out w' hw.1)) ⟨bel_310, trivial⟩ ?_
                    simp only [Act.put, List.setIfInBounds_toArray, List.set_cons_zero, List.set_cons_succ]
                    refine h_take 8 (.slice q1 b1.length c1) rfl 6 rfl (by kernel_rfl) (by kernel_rfl) (by kernel_rfl) (by kernel_rfl) (fun _ _ _ h => h) (fun w' _ => by kernel_rfl) ⟨bel_310, trivial⟩ ?_
                    simp only [Act.put, List.setIfInBounds_toArray, List.set_cons_zero, List.set_cons_succ]
                    refine h_take 9 (.slice q2 b2.length c2) rfl 7 rfl (by kernel_rfl) (by kernel_rfl) (by kernel_rfl) (by kernel_rfl) (fun _ _ _ h => h) (fun w' _ => by kernel_rfl) ⟨bel_310, trivial⟩ ?_
                    simp only [Act.put, List.setIfInBounds_toArray, List.set_cons_zero, List.set_cons_succ]
                    refine h_take 10 (.bool true) rfl 8 rfl (by kernel_rfl) (by kernel_rfl) (by kernel_rfl) (by kernel_rfl) (fun _ _ _ h => h) (fun w' _ => by kernel_rfl) ⟨bel_310, trivial⟩ ?_
                    simp only [Act.put, List.setIfInBounds_toArray, List.set_cons_zero, List.set_cons_succ]
                    refine wpAnyH_done (by kernel_rfl) ?_ _
                    go_wp2_with fail
                    refine bodyPost_ret (res_three rfl _ _ _) rfl ?_
                    refine ⟨fun h => ?_, fun _ => ⟨k, q1, c1, q2, c2, by omega, ?_, ?_, ?_, ?_, ?_⟩, below_step bel bel.size bel_310⟩
                    · exact absurd (h.symm.trans (meet_of HRA.out HRB.out (by have := HQ.out; omega) (by rw [HTN.out, ← HU.out, ← HV.out]; exact HUV.out) HAB.out)) Bool.false_ne_true
                    · rw [HTN.out, ← HD1.out, ← HD2.out]; exact HEQ.out
                    · intro j hj; rw [HTN.out]; exact HNE.out j hj
                    · rw [HTN.out, ← HB1.out, ← HB2.out]; rfl
                    · rw [HTN.out, ← HB1.out]; exact HCM1.out _ bel_310
                    · rw [HTN.out, ← HB2.out]; exact HCM2.out _ bel_310
                  · have HEQ := Lib.hid hd
                    clear hd
                    refine h_take 10 (.bool false) rfl 94 rfl (by kernel_rfl) (by kernel_rfl) (by kernel_rfl) (by kernel_rfl) (fun _ _ _ h => h) (fun w' _ => run_op_eqlD22 KD1.out KD2.out _ _ _ rfl rfl rfl false (iff_of_false Bool.false_ne_true HEQ.out) w') ⟨bel_306, trivial⟩ ?_
                    simp only [Act.put, List.setIfInBounds_toArray, List.set_cons_zero, List.set_cons_succ]
                    refine h_take 11 (.bool false) rfl 95 rfl (by kernel_rfl) (by kernel_rfl) (by kernel_rfl) (by kernel_rfl) (fun _ _ _ h => h) (fun w' _ => by kernel_rfl) ⟨bel_306, trivial⟩ ?_
                    simp only [Act.put, List.setIfInBounds_toArray, List.set_cons_zero, List.set_cons_succ]
                    refine h_pass 12 rfl 96 rfl (by kernel_rfl) (by kernel_rfl) (by kernel_rfl) (by kernel_rfl) (fun _ _ _ h => h) ⟨bel_306, trivial⟩ ?_
                    simp only [Act.put, List.setIfInBounds_toArray, List.set_cons_zero, List.set_cons_succ]
                    refine h_pass 13 rfl 97 rfl (by kernel_rfl) (by kernel_rfl) (by kernel_rfl) (by kernel_rfl) (fun _ _ _ h => h) ⟨bel_306, trivial⟩ ?_
                    simp only [Act.put, List.setIfInBounds_toArray, List.set_cons_zero, List.set_cons_succ]
                    refine h_pass 14 rfl 98 rfl (by kernel_rfl) (by kernel_rfl) (by kernel_rfl) (by kernel_rfl) (fun _ _ _ h => h) ⟨bel_306, trivial⟩ ?_
                    simp only [Act.put, List.setIfInBounds_toArray, List.set_cons_zero, List.set_cons_succ]
                    refine h_pass 15 rfl 99 rfl (by kernel_rfl) (by kernel_rfl) (by kernel_rfl) (by kernel_rfl) (fun _ _ _ h => h) ⟨bel_306, trivial⟩ ?_
                    simp only [Act.put, List.setIfInBounds_toArray, List.set_cons_zero, List.set_cons_succ]
                    refine h_pass 16 rfl 100 rfl (by kernel_rfl) (by kernel_rfl) (by kernel_rfl) (by kernel_rfl) (fun _ _ _ h => h) ⟨bel_306, trivial⟩ ?_
                    simp only [Act.put, List.setIfInBounds_toArray, List.set_cons_zero, List.set_cons_succ]
                    refine h_pass 17 rfl 101 rfl (by kernel_rfl) (by kernel_rfl) (by kernel_rfl) (by kernel_rfl) (fun _ _ _ h => h) ⟨bel_306, trivial⟩ ?_
                    simp only [Act.put, List.setIfInBounds_toArray, List.set_cons_zero, List.set_cons_succ]
                    refine h_pass 18 rfl 102 rfl (by kernel_rfl) (by kernel_rfl) (by kernel_rfl) (by kernel_rfl) (fun _ _ _ h => h) ⟨bel_306, trivial⟩ ?_
                    simp only [Act.put, List.setIfInBounds_toArray, List.set_cons_zero, List.set_cons_succ]
                    refine h_pass 19 rfl 103 rfl (by kernel_rfl) (by kernel_rfl) (by kernel_rfl) (by kernel_rfl) (fun _ _ _ h => h) ⟨bel_306, trivial⟩ ?_
                    simp only [Act.put, List.setIfInBounds_toArray, List.set_cons_zero, List.set_cons_succ]
                    refine h_pass 20 rfl 104 rfl (by kernel_rfl) (by kernel_rfl) (by kernel_rfl) (by kernel_rfl) (fun _ _ _ h => h) ⟨bel_306, trivial⟩ ?_
                    simp only [Act.put, List.setIfInBounds_toArray, List.set_cons_zero, List.set_cons_succ]
                    refine h_pass 21 rfl 105 rfl (by kernel_rfl) (by kernel_rfl) (by kernel_rfl) (by kernel_rfl) (fun _ _ _ h => h) ⟨bel_306, trivial⟩ ?_
                    simp only [Act.put, List.setIfInBounds_toArray, List.set_cons_zero, List.set_cons_succ]
                    refine h_take 22 (.bool false) rfl 106 rfl (by kernel_rfl) (by kernel_rfl) (by kernel_rfl) (by kernel_rfl) (fun _ _ _ h => h) (fun w' _ => by kernel_rfl) ⟨bel_306, trivial⟩ ?_
                    simp only [Act.put, List.setIfInBounds_toArray, List.set_cons_zero, List.set_cons_succ]
                    refine wpAnyH_done (by kernel_rfl) ?_ _
                    go_wp2_with fail
                    try simp only [Act.put]
                    go_roundw
                    case rel => exact ⟨⟨k + 1, by omega, by go_num, fun j hj => by
                      rcases Nat.lt_or_ge j k with h | h
                      · exact HNE.out j h
                      · obtain rfl : j = k := by omega
                        rw [← HD1.out, ← HD2.out]; exact HEQ.out⟩, HP1.out.below bel_306, HP2.out.below bel_306, below_step bel bel.size bel_306⟩
                    case measure => simp [intOf]; omega
                · obtain rfl : k = 5 := by omega
                  exact absurd (by rw [← HU.out, ← HV.out]; exact HUV.out) (HNE.out 4 (by omega))
            · have HUV := Lib.hid huv
              clear huv
              go_enter Tryd.func25, Tryd.ntmps25
              go_wp2_with (first
                | ((with_reducible refine at_slot 4 ?_); (refine arm_box (o := ⟨some 4, _, _, _, _, _⟩) rfl _ _ rfl (clc a L) rfl ?_); intro A v1 Ae hv1 nv1; try simp only [Act.put, List.setIfInBounds_toArray, List.set_cons_zero, List.set_cons_succ])
                | ((with_reducible refine at_slot 5 ?_); (refine arm_box (o := ⟨some 5, _, _, _, _, _⟩) rfl _ _ rfl (clc b M) rfl ?_); intro B v2 Be hv2 nv2; try simp only [Act.put, List.setIfInBounds_toArray, List.set_cons_zero, List.set_cons_succ])
                | ((with_reducible refine at_slot 22 ?_); (refine pause ?_); try simp only [Act.put, List.setIfInBounds_toArray, List.set_cons_zero, List.set_cons_succ]))
              have hbv1 := nv1.below
              have rrv1 : Row v1 A 65 (clc a L) := hv1
              have hbv2 := nv2.below
              have rrv2 : Row v2 B 65 (clc b M) := hv2
              have geA : w.heap.size ≤ A := by have := Ae.out; omega
              clear hv1 nv1 Ae
              have bel_3 : Below w.heap.size w v1 := hbv1
              clear hbv1
              have geB : w.heap.size ≤ B := by have := Be.out; have := bel_3.size; omega
              have ltAB : A < B := by have := Be.out; have := rrv1.lt; omega
              clear hv2 nv2 Be
              have A_4 : Row v2 A 65 (clc a L) := rrv1.old hbv2
              have bel_4 : Below w.heap.size w v2 := below_step bel_3 bel_3.size hbv2
              clear rrv1 bel_3 hbv2
              refine go_on ?_
              go_wp2_with (first
                | ((with_reducible refine at_slot 22 ?_); (refine arm_load (o := ⟨some 22, _, _, _, _, _⟩) rfl _ _ rfl A 0 rfl (acs a) ((c_a a L).range A_4) KA.out ?_); try simp only [Act.put, List.setIfInBounds_toArray, List.set_cons_zero, List.set_cons_succ]))
              refine (CHA.out _ (HKW.out _ bel_4)).mono ?_
              rintro e y5 ⟨rfl, hB⟩
              have A_6 : Row y5 A 65 (clc a L) := A_4.old hB
              have B_6 : Row y5 B 65 (clc b M) := rrv2.old hB
              have bel_6 : Below w.heap.size w y5 := below_step bel_4 bel_4.size hB
              clear A_4 rrv2 bel_4 hB
              go_wp2_with (first
                | ((with_reducible refine at_slot 9 ?_); (refine arm_alloc (o := ⟨some 9, _, _, _, _, _⟩) rfl _ rfl (u8s zh) zH ?_); intro D v7a De hDa nD; try simp only [Act.put, List.setIfInBounds_toArray, List.set_cons_zero, List.set_cons_succ])
                | ((with_reducible refine arm_store (o := ⟨none, _, _, _, _, _⟩) rfl _ _ _ rfl D 0 rfl (u8s da) rfl _ _ hDa (fitH KD.out) (u8s_one _) (szH KD.out) ?_); intro v7 hDb oD sD; try simp only [Act.put, List.setIfInBounds_toArray, List.set_cons_zero, List.set_cons_succ])
                | ((with_reducible refine at_slot 28 ?_); (refine pause ?_); try simp only [Act.put, List.setIfInBounds_toArray, List.set_cons_zero, List.set_cons_succ]))
              have lD : y5.heap.size ≤ D := by have := De.out; omega
              have bD : Below y5.heap.size y5 v7 := below_only nD.below oD lD nD.below.size
              have rrD : Row v7 D 23 (u8s da) := hDb.congr (allH KD.out)
              have geD : w.heap.size ≤ D := Nat.le_trans bel_6.size lD
              clear hDa hDb nD oD sD De lD
              have A_8 : Row v7 A 65 (clc a L) := A_6.old bD
              have B_8 : Row v7 B 65 (clc b M) := B_6.old bD
              have bel_8 : Below w.heap.size w v7 := below_step bel_6 bel_6.size bD
              clear A_6 B_6 bel_6 bD
              refine go_on ?_
              go_wp2_with (first
                | ((with_reducible refine at_slot 28 ?_); (refine arm_load (o := ⟨some 28, _, _, _, _, _⟩) rfl _ _ rfl B 0 rfl (acs b) ((c_a b M).range B_8) KB.out ?_); try simp only [Act.put, List.setIfInBounds_toArray, List.set_cons_zero, List.set_cons_succ]))
              refine (CHB.out _ (HKW.out _ bel_8)).mono ?_
              rintro e y9 ⟨rfl, hB⟩
              have A_10 : Row y9 A 65 (clc a L) := A_8.old hB
              have B_10 : Row y9 B 65 (clc b M) := B_8.old hB
              have D_10 : Row y9 D 23 (u8s da) := rrD.old hB
              have bel_10 : Below w.heap.size w y9 := below_step bel_8 bel_8.size hB
              clear A_8 B_8 rrD bel_8 hB
              go_wp2_with (first
                | ((with_reducible refine at_slot 11 ?_); (refine arm_alloc (o := ⟨some 11, _, _, _, _, _⟩) rfl _ rfl (u8s zh) zH ?_); intro E v11a Ee hEa nE; try simp only [Act.put, List.setIfInBounds_toArray, List.set_cons_zero, List.set_cons_succ])
                | ((with_reducible refine arm_store (o := ⟨none, _, _, _, _, _⟩) rfl _ _ _ rfl E 0 rfl (u8s db) rfl _ _ hEa (fitH KE.out) (u8s_one _) (szH KE.out) ?_); intro v11 hEb oE sE; try simp only [Act.put, List.setIfInBounds_toArray, List.set_cons_zero, List.set_cons_succ])
                | ((with_reducible refine at_slot 40 ?_); (refine arm_want (.bool false) 40 rfl (by kernel_rfl) (cmp_neq _ _ .i64 (by kernel_rfl) _ _ rfl .i64 (0) (0) rfl rfl false (by decide) _) ?_); try simp only [Act.put, List.setIfInBounds_toArray, List.set_cons_zero, List.set_cons_succ])
                | ((with_reducible refine at_slot 44 ?_); (refine arm_want (.bool false) 44 rfl (by kernel_rfl) (cmp_neq _ _ .i64 (by kernel_rfl) _ _ rfl .i64 (0) (0) rfl rfl false (by decide) _) ?_); try simp only [Act.put, List.setIfInBounds_toArray, List.set_cons_zero, List.set_cons_succ])
                | ((with_reducible refine at_slot 48 ?_); (refine arm_want (.agg (acs a).toArray) 48 rfl (by kernel_rfl) (run_op_load _ _ rfl A 0 rfl (acs a) ((c_a a L).range ((A_10.old nE.below).only oE (by have := Ee.out; have := A_10.lt; omega))) KA.out) ?_); try simp only [Act.put, List.setIfInBounds_toArray, List.set_cons_zero, List.set_cons_succ])
                | ((with_reducible refine at_slot 50 ?_); (refine arm_want (.agg (acs b).toArray) 50 rfl (by kernel_rfl) (run_op_load _ _ rfl B 0 rfl (acs b) ((c_a b M).range ((B_10.old nE.below).only oE (by have := Ee.out; have := B_10.lt; omega))) KB.out) ?_); try simp only [Act.put, List.setIfInBounds_toArray, List.set_cons_zero, List.set_cons_succ])
                | ((with_reducible refine at_slot 51 ?_); (refine arm_want (.bool false) 51 rfl (by kernel_rfl) (run_op_eqlRA _ _ _ rfl a b rfl rfl false (iff_of_false Bool.false_ne_true HAB.out) _) ?_); try simp only [Act.put, List.setIfInBounds_toArray, List.set_cons_zero, List.set_cons_succ])
                | ((with_reducible refine at_slot 55 ?_); (refine arm_load (o := ⟨some 55, _, _, _, _, _⟩) rfl _ _ rfl D 0 rfl (u8s da) ((Has.refl _).range ((D_10.old nE.below).only oE (by have := Ee.out; have := D_10.lt; omega))) (szH KD.out) ?_); try simp only [Act.put, List.setIfInBounds_toArray, List.set_cons_zero, List.set_cons_succ])
                | ((with_reducible refine at_slot 57 ?_); (refine arm_load (o := ⟨some 57, _, _, _, _, _⟩) rfl _ _ rfl A 3 rfl (dgC L) ((c_p a L).range ((A_10.old nE.below).only oE (by have := Ee.out; have := A_10.lt; omega))) SPL.out ?_); try simp only [Act.put, List.setIfInBounds_toArray, List.set_cons_zero, List.set_cons_succ]))
              have lE : y9.heap.size ≤ E := by have := Ee.out; omega
              have bE : Below y9.heap.size y9 v11 := below_only nE.below oE lE nE.below.size
              have rrE : Row v11 E 23 (u8s db) := hEb.congr (allH KE.out)
              have geE : w.heap.size ≤ E := Nat.le_trans bel_10.size lE
              have neDE : D ≠ E := by have := D_10.lt; omega
              clear hEa hEb nE oE sE Ee lE
              have A_12 : Row v11 A 65 (clc a L) := A_10.old bE
              have B_12 : Row v11 B 65 (clc b M) := B_10.old bE
              have D_12 : Row v11 D 23 (u8s da) := D_10.old bE
              have bel_12 : Below w.heap.size w v11 := below_step bel_10 bel_10.size bE
              clear A_10 B_10 D_10 bel_10 bE
              refine (CLA.out _ (HKW.out _ bel_12)).mono ?_
              rintro e y13 ⟨rfl, hB⟩
              have A_14 : Row y13 A 65 (clc a L) := A_12.old hB
              have B_14 : Row y13 B 65 (clc b M) := B_12.old hB
              have D_14 : Row y13 D 23 (u8s da) := D_12.old hB
              have E_14 : Row y13 E 23 (u8s db) := rrE.old hB
              have bel_14 : Below w.heap.size w y13 := below_step bel_12 bel_12.size hB
              clear A_12 B_12 D_12 rrE bel_12 hB
              go_wp2_with (first
                | ((with_reducible refine at_slot 13 ?_); (refine arm_alloc (o := ⟨some 13, _, _, _, _, _⟩) rfl _ rfl (u8s zh) zH ?_); intro U v15a Ue hUa nU; try simp only [Act.put, List.setIfInBounds_toArray, List.set_cons_zero, List.set_cons_succ])
                | ((with_reducible refine arm_store (o := ⟨none, _, _, _, _, _⟩) rfl _ _ _ rfl U 0 rfl (u8s u) rfl _ _ hUa (fitH KU.out) (u8s_one _) (szH KU.out) ?_); intro v15 hUb oU sU; try simp only [Act.put, List.setIfInBounds_toArray, List.set_cons_zero, List.set_cons_succ])
                | ((with_reducible refine at_slot 63 ?_); (refine arm_load (o := ⟨some 63, _, _, _, _, _⟩) rfl _ _ rfl E 0 rfl (u8s db) ((Has.refl _).range ((E_14.old nU.below).only oU (by have := Ue.out; have := E_14.lt; omega))) (szH KE.out) ?_); try simp only [Act.put, List.setIfInBounds_toArray, List.set_cons_zero, List.set_cons_succ])
                | ((with_reducible refine at_slot 65 ?_); (refine arm_load (o := ⟨some 65, _, _, _, _, _⟩) rfl _ _ rfl B 3 rfl (dgC M) ((c_p b M).range ((B_14.old nU.below).only oU (by have := Ue.out; have := B_14.lt; omega))) SPM.out ?_); try simp only [Act.put, List.setIfInBounds_toArray, List.set_cons_zero, List.set_cons_succ]))
              have lU : y13.heap.size ≤ U := by have := Ue.out; omega
              have bU : Below y13.heap.size y13 v15 := below_only nU.below oU lU nU.below.size
              have rrU : Row v15 U 23 (u8s u) := hUb.congr (allH KU.out)
              have geU : w.heap.size ≤ U := Nat.le_trans bel_14.size lU
              clear hUa hUb nU oU sU Ue lU
              have A_16 : Row v15 A 65 (clc a L) := A_14.old bU
              have B_16 : Row v15 B 65 (clc b M) := B_14.old bU
              have D_16 : Row v15 D 23 (u8s da) := D_14.old bU
              have E_16 : Row v15 E 23 (u8s db) := E_14.old bU
              have bel_16 : Below w.heap.size w v15 := below_step bel_14 bel_14.size bU
              clear A_14 B_14 D_14 E_14 bel_14 bU
              refine (CLB.out _ (HKW.out _ bel_16)).mono ?_
              rintro e y17 ⟨rfl, hB⟩
              have A_18 : Row y17 A 65 (clc a L) := A_16.old hB
              have B_18 : Row y17 B 65 (clc b M) := B_16.old hB
              have D_18 : Row y17 D 23 (u8s da) := D_16.old hB
              have E_18 : Row y17 E 23 (u8s db) := E_16.old hB
              have U_18 : Row y17 U 23 (u8s u) := rrU.old hB
              have bel_18 : Below w.heap.size w y17 := below_step bel_16 bel_16.size hB
              clear A_16 B_16 D_16 E_16 rrU bel_16 hB
              go_wp2_with (first
                | ((with_reducible refine at_slot 15 ?_); (refine arm_alloc (o := ⟨some 15, _, _, _, _, _⟩) rfl _ rfl (u8s zh) zH ?_); intro V v19a Ve hVa nV; try simp only [Act.put, List.setIfInBounds_toArray, List.set_cons_zero, List.set_cons_succ])
                | ((with_reducible refine arm_store (o := ⟨none, _, _, _, _, _⟩) rfl _ _ _ rfl V 0 rfl (u8s v) rfl _ _ hVa (fitH KV.out) (u8s_one _) (szH KV.out) ?_); intro v19 hVb oV sV; try simp only [Act.put, List.setIfInBounds_toArray, List.set_cons_zero, List.set_cons_succ])
                | ((with_reducible refine at_slot 69 ?_); (refine arm_load (o := ⟨some 69, _, _, _, _, _⟩) rfl _ _ rfl U 0 rfl (u8s u) ((Has.refl _).range ((U_18.old nV.below).only oV (by have := Ve.out; have := U_18.lt; omega))) (szH KU.out) ?_); try simp only [Act.put, List.setIfInBounds_toArray, List.set_cons_zero, List.set_cons_succ])
                | ((with_reducible refine at_slot 70 ?_); (refine arm_load (o := ⟨some 70, _, _, _, _, _⟩) rfl _ _ rfl V 0 rfl (u8s v) ((Has.refl _).range (hVb.congr (allH KV.out))) (szH KV.out) ?_); try simp only [Act.put, List.setIfInBounds_toArray, List.set_cons_zero, List.set_cons_succ])
                | ((with_reducible refine at_slot 71 ?_); (refine arm_want (.bool true) 71 rfl (by kernel_rfl) (run_op_neqD KU.out KV.out _ _ _ rfl rfl rfl false (iff_of_false Bool.false_ne_true HUV.out) _) ?_); try simp only [Act.put, List.setIfInBounds_toArray, List.set_cons_zero, List.set_cons_succ]))
              have lV : y17.heap.size ≤ V := by have := Ve.out; omega
              have bV : Below y17.heap.size y17 v19 := below_only nV.below oV lV nV.below.size
              have rrV : Row v19 V 23 (u8s v) := hVb.congr (allH KV.out)
              have geV : w.heap.size ≤ V := Nat.le_trans bel_18.size lV
              clear hVa hVb nV oV sV Ve lV
              have A_20 : Row v19 A 65 (clc a L) := A_18.old bV
              have B_20 : Row v19 B 65 (clc b M) := B_18.old bV
              have D_20 : Row v19 D 23 (u8s da) := D_18.old bV
              have E_20 : Row v19 E 23 (u8s db) := E_18.old bV
              have U_20 : Row v19 U 23 (u8s u) := U_18.old bV
              have bel_20 : Below w.heap.size w v19 := below_step bel_18 bel_18.size bV
              clear A_18 B_18 D_18 E_18 U_18 bel_18 bV
              refine bodyPost_ret (res_three rfl _ _ _) rfl ?_
              exact ⟨fun _ => rfl, fun h => absurd (meet_true h) (fun h => HUV.out (by rw [HU.out, HV.out]; have := h.2.2.2.1; rw [HTN.out] at this; exact this)), bel_20⟩
        · have HRB := Lib.hid hrb
          clear hn hg hra hrb
          go_enter Tryd.func25, Tryd.ntmps25
          go_wp2_with (first
            | ((with_reducible refine at_slot 4 ?_); (refine arm_box (o := ⟨some 4, _, _, _, _, _⟩) rfl _ _ rfl (clc a L) rfl ?_); intro A v1 Ae hv1 nv1; try simp only [Act.put, List.setIfInBounds_toArray, List.set_cons_zero, List.set_cons_succ])
            | ((with_reducible refine at_slot 5 ?_); (refine arm_box (o := ⟨some 5, _, _, _, _, _⟩) rfl _ _ rfl (clc b M) rfl ?_); intro B v2 Be hv2 nv2; try simp only [Act.put, List.setIfInBounds_toArray, List.set_cons_zero, List.set_cons_succ])
            | ((with_reducible refine at_slot 22 ?_); (refine pause ?_); try simp only [Act.put, List.setIfInBounds_toArray, List.set_cons_zero, List.set_cons_succ]))
          have hbv1 := nv1.below
          have rrv1 : Row v1 A 65 (clc a L) := hv1
          have hbv2 := nv2.below
          have rrv2 : Row v2 B 65 (clc b M) := hv2
          have geA : w.heap.size ≤ A := by have := Ae.out; omega
          clear hv1 nv1 Ae
          have bel_3 : Below w.heap.size w v1 := hbv1
          clear hbv1
          have geB : w.heap.size ≤ B := by have := Be.out; have := bel_3.size; omega
          have ltAB : A < B := by have := Be.out; have := rrv1.lt; omega
          clear hv2 nv2 Be
          have A_4 : Row v2 A 65 (clc a L) := rrv1.old hbv2
          have bel_4 : Below w.heap.size w v2 := below_step bel_3 bel_3.size hbv2
          clear rrv1 bel_3 hbv2
          refine go_on ?_
          go_wp2_with (first
            | ((with_reducible refine at_slot 22 ?_); (refine arm_load (o := ⟨some 22, _, _, _, _, _⟩) rfl _ _ rfl A 0 rfl (acs a) ((c_a a L).range A_4) KA.out ?_); try simp only [Act.put, List.setIfInBounds_toArray, List.set_cons_zero, List.set_cons_succ]))
          refine (CHA.out _ (HKW.out _ bel_4)).mono ?_
          rintro e y5 ⟨rfl, hB⟩
          have A_6 : Row y5 A 65 (clc a L) := A_4.old hB
          have B_6 : Row y5 B 65 (clc b M) := rrv2.old hB
          have bel_6 : Below w.heap.size w y5 := below_step bel_4 bel_4.size hB
          clear A_4 rrv2 bel_4 hB
          go_wp2_with (first
            | ((with_reducible refine at_slot 9 ?_); (refine arm_alloc (o := ⟨some 9, _, _, _, _, _⟩) rfl _ rfl (u8s zh) zH ?_); intro D v7a De hDa nD; try simp only [Act.put, List.setIfInBounds_toArray, List.set_cons_zero, List.set_cons_succ])
            | ((with_reducible refine arm_store (o := ⟨none, _, _, _, _, _⟩) rfl _ _ _ rfl D 0 rfl (u8s da) rfl _ _ hDa (fitH KD.out) (u8s_one _) (szH KD.out) ?_); intro v7 hDb oD sD; try simp only [Act.put, List.setIfInBounds_toArray, List.set_cons_zero, List.set_cons_succ])
            | ((with_reducible refine at_slot 28 ?_); (refine pause ?_); try simp only [Act.put, List.setIfInBounds_toArray, List.set_cons_zero, List.set_cons_succ]))
          have lD : y5.heap.size ≤ D := by have := De.out; omega
          have bD : Below y5.heap.size y5 v7 := below_only nD.below oD lD nD.below.size
          have rrD : Row v7 D 23 (u8s da) := hDb.congr (allH KD.out)
          have geD : w.heap.size ≤ D := Nat.le_trans bel_6.size lD
          clear hDa hDb nD oD sD De lD
          have A_8 : Row v7 A 65 (clc a L) := A_6.old bD
          have B_8 : Row v7 B 65 (clc b M) := B_6.old bD
          have bel_8 : Below w.heap.size w v7 := below_step bel_6 bel_6.size bD
          clear A_6 B_6 bel_6 bD
          refine go_on ?_
          go_wp2_with (first
            | ((with_reducible refine at_slot 28 ?_); (refine arm_load (o := ⟨some 28, _, _, _, _, _⟩) rfl _ _ rfl B 0 rfl (acs b) ((c_a b M).range B_8) KB.out ?_); try simp only [Act.put, List.setIfInBounds_toArray, List.set_cons_zero, List.set_cons_succ]))
          refine (CHB.out _ (HKW.out _ bel_8)).mono ?_
          rintro e y9 ⟨rfl, hB⟩
          have A_10 : Row y9 A 65 (clc a L) := A_8.old hB
          have B_10 : Row y9 B 65 (clc b M) := B_8.old hB
          have D_10 : Row y9 D 23 (u8s da) := rrD.old hB
          have bel_10 : Below w.heap.size w y9 := below_step bel_8 bel_8.size hB
          clear A_8 B_8 rrD bel_8 hB
          go_wp2_with (first
            | ((with_reducible refine at_slot 11 ?_); (refine arm_alloc (o := ⟨some 11, _, _, _, _, _⟩) rfl _ rfl (u8s zh) zH ?_); intro E v11a Ee hEa nE; try simp only [Act.put, List.setIfInBounds_toArray, List.set_cons_zero, List.set_cons_succ])
            | ((with_reducible refine arm_store (o := ⟨none, _, _, _, _, _⟩) rfl _ _ _ rfl E 0 rfl (u8s db) rfl _ _ hEa (fitH KE.out) (u8s_one _) (szH KE.out) ?_); intro v11 hEb oE sE; try simp only [Act.put, List.setIfInBounds_toArray, List.set_cons_zero, List.set_cons_succ])
            | ((with_reducible refine at_slot 40 ?_); (refine arm_want (.bool false) 40 rfl (by kernel_rfl) (cmp_neq _ _ .i64 (by kernel_rfl) _ _ rfl .i64 (0) (0) rfl rfl false (by decide) _) ?_); try simp only [Act.put, List.setIfInBounds_toArray, List.set_cons_zero, List.set_cons_succ])
            | ((with_reducible refine at_slot 44 ?_); (refine arm_want (.bool true) 44 rfl (by kernel_rfl) (cmp_neq _ _ .i64 (by kernel_rfl) _ _ rfl .i64 (1) (0) rfl rfl true (by decide) _) ?_); try simp only [Act.put, List.setIfInBounds_toArray, List.set_cons_zero, List.set_cons_succ]))
          have lE : y9.heap.size ≤ E := by have := Ee.out; omega
          have bE : Below y9.heap.size y9 v11 := below_only nE.below oE lE nE.below.size
          have rrE : Row v11 E 23 (u8s db) := hEb.congr (allH KE.out)
          have geE : w.heap.size ≤ E := Nat.le_trans bel_10.size lE
          have neDE : D ≠ E := by have := D_10.lt; omega
          clear hEa hEb nE oE sE Ee lE
          have A_12 : Row v11 A 65 (clc a L) := A_10.old bE
          have B_12 : Row v11 B 65 (clc b M) := B_10.old bE
          have D_12 : Row v11 D 23 (u8s da) := D_10.old bE
          have bel_12 : Below w.heap.size w v11 := below_step bel_10 bel_10.size bE
          clear A_10 B_10 D_10 bel_10 bE
          refine bodyPost_ret (res_three rfl _ _ _) rfl ?_
          exact ⟨fun _ => rfl, fun h => absurd (meet_true h) (fun h => HRB.out h.2.1), bel_12⟩
      · have HRA := Lib.hid hra
        clear hn hg hra E2
        go_enter Tryd.func25, Tryd.ntmps25
        go_wp2_with (first
          | ((with_reducible refine at_slot 4 ?_); (refine arm_box (o := ⟨some 4, _, _, _, _, _⟩) rfl _ _ rfl (clc a L) rfl ?_); intro A v1 Ae hv1 nv1; try simp only [Act.put, List.setIfInBounds_toArray, List.set_cons_zero, List.set_cons_succ])
          | ((with_reducible refine at_slot 5 ?_); (refine arm_box (o := ⟨some 5, _, _, _, _, _⟩) rfl _ _ rfl (clc b M) rfl ?_); intro B v2 Be hv2 nv2; try simp only [Act.put, List.setIfInBounds_toArray, List.set_cons_zero, List.set_cons_succ])
          | ((with_reducible refine at_slot 22 ?_); (refine pause ?_); try simp only [Act.put, List.setIfInBounds_toArray, List.set_cons_zero, List.set_cons_succ]))
        have hbv1 := nv1.below
        have rrv1 : Row v1 A 65 (clc a L) := hv1
        have hbv2 := nv2.below
        have rrv2 : Row v2 B 65 (clc b M) := hv2
        have geA : w.heap.size ≤ A := by have := Ae.out; omega
        clear hv1 nv1 Ae
        have bel_3 : Below w.heap.size w v1 := hbv1
        clear hbv1
        have geB : w.heap.size ≤ B := by have := Be.out; have := bel_3.size; omega
        have ltAB : A < B := by have := Be.out; have := rrv1.lt; omega
        clear hv2 nv2 Be
        have A_4 : Row v2 A 65 (clc a L) := rrv1.old hbv2
        have bel_4 : Below w.heap.size w v2 := below_step bel_3 bel_3.size hbv2
        clear rrv1 bel_3 hbv2
        refine go_on ?_
        go_wp2_with (first
          | ((with_reducible refine at_slot 22 ?_); (refine arm_load (o := ⟨some 22, _, _, _, _, _⟩) rfl _ _ rfl A 0 rfl (acs a) ((c_a a L).range A_4) KA.out ?_); try simp only [Act.put, List.setIfInBounds_toArray, List.set_cons_zero, List.set_cons_succ]))
        refine (CHA.out _ (HKW.out _ bel_4)).mono ?_
        rintro e y5 ⟨rfl, hB⟩
        have A_6 : Row y5 A 65 (clc a L) := A_4.old hB
        have B_6 : Row y5 B 65 (clc b M) := rrv2.old hB
        have bel_6 : Below w.heap.size w y5 := below_step bel_4 bel_4.size hB
        clear A_4 rrv2 bel_4 hB
        go_wp2_with (first
          | ((with_reducible refine at_slot 9 ?_); (refine arm_alloc (o := ⟨some 9, _, _, _, _, _⟩) rfl _ rfl (u8s zh) zH ?_); intro D v7a De hDa nD; try simp only [Act.put, List.setIfInBounds_toArray, List.set_cons_zero, List.set_cons_succ])
          | ((with_reducible refine arm_store (o := ⟨none, _, _, _, _, _⟩) rfl _ _ _ rfl D 0 rfl (u8s da) rfl _ _ hDa (fitH KD.out) (u8s_one _) (szH KD.out) ?_); intro v7 hDb oD sD; try simp only [Act.put, List.setIfInBounds_toArray, List.set_cons_zero, List.set_cons_succ])
          | ((with_reducible refine at_slot 28 ?_); (refine pause ?_); try simp only [Act.put, List.setIfInBounds_toArray, List.set_cons_zero, List.set_cons_succ]))
        have lD : y5.heap.size ≤ D := by have := De.out; omega
        have bD : Below y5.heap.size y5 v7 := below_only nD.below oD lD nD.below.size
        have rrD : Row v7 D 23 (u8s da) := hDb.congr (allH KD.out)
        have geD : w.heap.size ≤ D := Nat.le_trans bel_6.size lD
        clear hDa hDb nD oD sD De lD
        have A_8 : Row v7 A 65 (clc a L) := A_6.old bD
        have B_8 : Row v7 B 65 (clc b M) := B_6.old bD
        have bel_8 : Below w.heap.size w v7 := below_step bel_6 bel_6.size bD
        clear A_6 B_6 bel_6 bD
        refine go_on ?_
        go_wp2_with (first
          | ((with_reducible refine at_slot 28 ?_); (refine arm_load (o := ⟨some 28, _, _, _, _, _⟩) rfl _ _ rfl B 0 rfl (acs b) ((c_a b M).range B_8) KB.out ?_); try simp only [Act.put, List.setIfInBounds_toArray, List.set_cons_zero, List.set_cons_succ]))
        refine (CHB.out _ (HKW.out _ bel_8)).mono ?_
        rintro e y9 ⟨rfl, hB⟩
        have A_10 : Row y9 A 65 (clc a L) := A_8.old hB
        have B_10 : Row y9 B 65 (clc b M) := B_8.old hB
        have D_10 : Row y9 D 23 (u8s da) := rrD.old hB
        have bel_10 : Below w.heap.size w y9 := below_step bel_8 bel_8.size hB
        clear A_8 B_8 rrD bel_8 hB
        go_wp2_with (first
          | ((with_reducible refine at_slot 11 ?_); (refine arm_alloc (o := ⟨some 11, _, _, _, _, _⟩) rfl _ rfl (u8s zh) zH ?_); intro E v11a Ee hEa nE; try simp only [Act.put, List.setIfInBounds_toArray, List.set_cons_zero, List.set_cons_succ])
          | ((with_reducible refine arm_store (o := ⟨none, _, _, _, _, _⟩) rfl _ _ _ rfl E 0 rfl (u8s db) rfl _ _ hEa (fitH KE.out) (u8s_one _) (szH KE.out) ?_); intro v11 hEb oE sE; try simp only [Act.put, List.setIfInBounds_toArray, List.set_cons_zero, List.set_cons_succ])
          | ((with_reducible refine at_slot 40 ?_); (refine arm_want (.bool true) 40 rfl (by kernel_rfl) (cmp_neq _ _ .i64 (by kernel_rfl) _ _ rfl .i64 (1) (0) rfl rfl true (by decide) _) ?_); try simp only [Act.put, List.setIfInBounds_toArray, List.set_cons_zero, List.set_cons_succ]))
        have lE : y9.heap.size ≤ E := by have := Ee.out; omega
        have bE : Below y9.heap.size y9 v11 := below_only nE.below oE lE nE.below.size
        have rrE : Row v11 E 23 (u8s db) := hEb.congr (allH KE.out)
        have geE : w.heap.size ≤ E := Nat.le_trans bel_10.size lE
        have neDE : D ≠ E := by have := D_10.lt; omega
        clear hEa hEb nE oE sE Ee lE
        have A_12 : Row v11 A 65 (clc a L) := A_10.old bE
        have B_12 : Row v11 B 65 (clc b M) := B_10.old bE
        have D_12 : Row v11 D 23 (u8s da) := D_10.old bE
        have bel_12 : Below w.heap.size w v11 := below_step bel_10 bel_10.size bE
        clear A_10 B_10 D_10 bel_10 bE
        refine bodyPost_ret (res_three rfl _ _ _) rfl ?_
        exact ⟨fun _ => rfl, fun h => absurd (meet_true h) (fun h => HRA.out h.1), bel_12⟩
end Go.Proofs.YtaihhbiocolhcaaDoor.Pf
