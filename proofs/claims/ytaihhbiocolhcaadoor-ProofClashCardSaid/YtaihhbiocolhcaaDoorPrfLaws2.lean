/-
  The walk of layer 16's statement ProofClash, out of the contracts: it returns true, and changes nothing that was there. Over this seat's translation.
-/
import Derived.Test.YtaihhbiocolhcaaDoorPrfAwake
namespace Go.Proofs.YtaihhbiocolhcaaDoor.Pf
open Go.ChangeShapes Go.WideShapes Go.ChangeAt Go.RowKit Go.Proofs.YtaihhbiocolhcaaDoor.Mem Go.Proofs.YtaihhbiocolhcaaDoor.Bt Go.Proofs.YtaihhbiocolhcaaDoor.Wi Go.Proofs.YtaihhbiocolhcaaDoor.Sha Go.Proofs.YtaihhbiocolhcaaDoor.Ac Go.Proofs.YtaihhbiocolhcaaDoor.Tr
open Go.Proofs.YtaihhbiocolhcaaDoor.Tg (bytesOf bytesOf_length bytesOf_lt bytesOf_inj Rd Rd.below Parts parts_one arm_one tagD tagD_len tagOf_any refTag_any total image image_inj image_length)
open Go.Proofs.YtaihhbiocolhcaaDoor.Ep (H32 zh zh_ok Has h_len szH zH fitH allH came_at one_app)
set_option linter.unusedVariables false
set_option linter.unusedSimpArgs false

theorem first_eq {f g : Nat → List Nat} : ∀ m, (∃ n, n ≤ m ∧ f n = g n ∧ ∀ j, j < n → ¬ f j = g j) ∨ ∀ j, j ≤ m → ¬ f j = g j
  | 0 => by
    by_cases h : f 0 = g 0
    · exact .inl ⟨0, Nat.le_refl _, h, fun j hj => by omega⟩
    · refine .inr fun j hj => ?_
      obtain rfl : j = 0 := by omega
      exact h
  | m + 1 => by
    rcases first_eq (f := f) (g := g) m with ⟨n, h1, h2, h3⟩ | h0
    · exact .inl ⟨n, by omega, h2, h3⟩
    · by_cases h : f (m + 1) = g (m + 1)
      · exact .inl ⟨m + 1, Nat.le_refl _, h, fun j hj => h0 j (by omega)⟩
      · refine .inr fun j hj => ?_
        rcases Nat.lt_or_ge m j with g1 | g1
        · obtain rfl : j = m + 1 := by omega
          exact h
        · exact h0 j g1
theorem first_one {f g : Nat → List Nat} {i n : Nat} (h1 : f i = g i) (h2 : ∀ j, j < i → ¬ f j = g j) (g1 : f n = g n) (g2 : ∀ j, j < n → ¬ f j = g j) : i = n := by
  rcases Nat.lt_trichotomy i n with h | h | h
  · exact absurd h1 (g2 i h)
  · exact h
  · exact absurd g1 (h2 n h)
set_option maxHeartbeats 4000000 in
set_option maxRecDepth 100000 in
theorem proofClash_any (p : Int) (a b : Acct) (L M : List (List Nat)) (w : World) (ka : a.Ok) (kb : b.Ok) (h4 : P4 L) (g4 : P4 M) (hk : w.rangeAt 1 0 (u32s ks)) (hk2 : w.rangeAt 0 0 (u32s ks)) :
    Calls Tryd.prog 5 #[.int .i64 p, .agg (clc a L).toArray, .agg (clc b M).toArray] w fun e w' => e = .returned (.bool true) ∧ Below w.heap.size w w' := by
  have hk1 : 1 < w.heap.size := range_lt hk (by simp [u32s, ks])
  have HKW : Hid (∀ w', Below w.heap.size w w' → w'.rangeAt 1 0 (u32s ks)) := Lib.hid fun w' hb => range_block hk (hb.block _ hk1)
  have hk3 : 0 < w.heap.size := range_lt hk2 (by simp [u32s, ks])
  have HKW2 : Hid (∀ w', Below w.heap.size w w' → w'.rangeAt 0 0 (u32s ks)) := Lib.hid fun w' hb => range_block hk2 (hb.block _ hk3)
  have CA := Lib.hid (fun w0 h => awake16_any w0 h)
  have KA := Lib.hid (sz_acc a); have KB := Lib.hid (sz_acc b)
  have SA := Lib.hid (sz_claim a h4); have SB := Lib.hid (sz_claim b g4)
  have H4 := Lib.hid h4; have G4 := Lib.hid g4; have HKA := Lib.hid ka; have HKB := Lib.hid kb
  have SPL := Lib.hid (sz_path h4.ok h4.len); have SPM := Lib.hid (sz_path g4.ok g4.len)
  have BA := Lib.hid (built_rclaim a h4); have BB := Lib.hid (built_rclaim b g4)
  have COA := Lib.hid (fun w0 => own16_any a w0); have COB := Lib.hid (fun w0 => own16_any b w0)
  have HNA := Lib.hid (c_nm a L).get; have HNB := Lib.hid (c_nm b M).get
  clear hk hk1 hk2 hk3 ka kb h4 g4
  by_cases h1 : 300 < a.nm.size
  · have d1 : decide ((300 : Int) < (a.nm.size : Int)) = true := decide_eq_true (by omega)
    clear h1
    go_enter Tryd.func5, Tryd.ntmps5
    go_wp2_with (first
      | ((with_reducible refine at_slot 4 ?_); (refine arm_box (o := ⟨some 4, _, _, _, _, _⟩) rfl _ _ rfl (clc a L) rfl ?_); intro A v1 Ae hv1 nv1; try simp only [Act.put, List.setIfInBounds_toArray, List.set_cons_zero, List.set_cons_succ])
      | ((with_reducible refine at_slot 5 ?_); (refine arm_box (o := ⟨some 5, _, _, _, _, _⟩) rfl _ _ rfl (clc b M) rfl ?_); intro B v2 Be hv2 nv2; try simp only [Act.put, List.setIfInBounds_toArray, List.set_cons_zero, List.set_cons_succ]))
    have hbv1 := nv1.below
    have rrv1 : Row v1 A 60 (clc a L) := hv1
    have hbv2 := nv2.below
    have rrv2 : Row v2 B 60 (clc b M) := hv2
    have geA : w.heap.size ≤ A := by have := Ae.out; omega
    clear hv1 nv1 Ae
    have bel_3 : Below w.heap.size w v1 := hbv1
    clear hbv1
    have geB : w.heap.size ≤ B := by have := Be.out; have := bel_3.size; omega
    have ltAB : A < B := by have := Be.out; have := rrv1.lt; omega
    clear hv2 nv2 Be
    have A_4 : Row v2 A 60 (clc a L) := rrv1.old hbv2
    have bel_4 : Below w.heap.size w v2 := below_step bel_3 bel_3.size hbv2
    clear rrv1 bel_3 hbv2
    refine (CA.out _ (HKW.out _ bel_4)).mono ?_
    rintro e y5 ⟨rfl, hB⟩
    have A_6 : Row y5 A 60 (clc a L) := A_4.old hB
    have B_6 : Row y5 B 60 (clc b M) := rrv2.old hB
    have bel_6 : Below w.heap.size w y5 := below_step bel_4 bel_4.size hB
    clear A_4 rrv2 bel_4 hB
    go_wp2_with (first
      | ((with_reducible refine at_slot 25 ?_); (refine arm_want (.string a.nm) 25 rfl (by kernel_rfl) (run_op_load1 _ _ rfl (.string) (by kernel_rfl) rfl ⟨A, 0, none⟩ rfl (.string a.nm) (A_6.cell HNA.out)) ?_); try simp only [Act.put, List.setIfInBounds_toArray, List.set_cons_zero, List.set_cons_succ])
      | ((with_reducible refine at_slot 31 ?_); (refine arm_want (.string b.nm) 31 rfl (by kernel_rfl) (run_op_load1 _ _ rfl (.string) (by kernel_rfl) rfl ⟨B, 0, none⟩ rfl (.string b.nm) (B_6.cell HNB.out)) ?_); try simp only [Act.put, List.setIfInBounds_toArray, List.set_cons_zero, List.set_cons_succ]))
    go_ret
    exact ⟨rfl, bel_6⟩
  · have d1 : decide ((300 : Int) < (a.nm.size : Int)) = false := decide_eq_false (by omega)
    by_cases h2 : 300 < b.nm.size
    · have d2 : decide ((300 : Int) < (b.nm.size : Int)) = true := decide_eq_true (by omega)
      clear h1 h2
      go_enter Tryd.func5, Tryd.ntmps5
      go_wp2_with (first
        | ((with_reducible refine at_slot 4 ?_); (refine arm_box (o := ⟨some 4, _, _, _, _, _⟩) rfl _ _ rfl (clc a L) rfl ?_); intro A v1 Ae hv1 nv1; try simp only [Act.put, List.setIfInBounds_toArray, List.set_cons_zero, List.set_cons_succ])
        | ((with_reducible refine at_slot 5 ?_); (refine arm_box (o := ⟨some 5, _, _, _, _, _⟩) rfl _ _ rfl (clc b M) rfl ?_); intro B v2 Be hv2 nv2; try simp only [Act.put, List.setIfInBounds_toArray, List.set_cons_zero, List.set_cons_succ]))
      have hbv1 := nv1.below
      have rrv1 : Row v1 A 60 (clc a L) := hv1
      have hbv2 := nv2.below
      have rrv2 : Row v2 B 60 (clc b M) := hv2
      have geA : w.heap.size ≤ A := by have := Ae.out; omega
      clear hv1 nv1 Ae
      have bel_3 : Below w.heap.size w v1 := hbv1
      clear hbv1
      have geB : w.heap.size ≤ B := by have := Be.out; have := bel_3.size; omega
      have ltAB : A < B := by have := Be.out; have := rrv1.lt; omega
      clear hv2 nv2 Be
      have A_4 : Row v2 A 60 (clc a L) := rrv1.old hbv2
      have bel_4 : Below w.heap.size w v2 := below_step bel_3 bel_3.size hbv2
      clear rrv1 bel_3 hbv2
      refine (CA.out _ (HKW.out _ bel_4)).mono ?_
      rintro e y5 ⟨rfl, hB⟩
      have A_6 : Row y5 A 60 (clc a L) := A_4.old hB
      have B_6 : Row y5 B 60 (clc b M) := rrv2.old hB
      have bel_6 : Below w.heap.size w y5 := below_step bel_4 bel_4.size hB
      clear A_4 rrv2 bel_4 hB
      go_wp2_with (first
        | ((with_reducible refine at_slot 25 ?_); (refine arm_want (.string a.nm) 25 rfl (by kernel_rfl) (run_op_load1 _ _ rfl (.string) (by kernel_rfl) rfl ⟨A, 0, none⟩ rfl (.string a.nm) (A_6.cell HNA.out)) ?_); try simp only [Act.put, List.setIfInBounds_toArray, List.set_cons_zero, List.set_cons_succ])
        | ((with_reducible refine at_slot 31 ?_); (refine arm_want (.string b.nm) 31 rfl (by kernel_rfl) (run_op_load1 _ _ rfl (.string) (by kernel_rfl) rfl ⟨B, 0, none⟩ rfl (.string b.nm) (B_6.cell HNB.out)) ?_); try simp only [Act.put, List.setIfInBounds_toArray, List.set_cons_zero, List.set_cons_succ]))
      go_ret
      exact ⟨rfl, bel_6⟩
    · have d2 : decide ((300 : Int) < (b.nm.size : Int)) = false := decide_eq_false (by omega)
      clear h1 h2
      cases hm : meetB p a L b M with
      | false =>
        have CX : Hid (∀ w0, w0.rangeAt 1 0 (u32s ks) → Calls Tryd.prog 24 #[.int .i64 p, .agg (clc a L).toArray, .agg (clc b M).toArray] w0 fun e w' => e = .returned (.tuple #[.slice none 0 0, .slice none 0 0, .bool false]) ∧ Below w0.heap.size w0 w') := Lib.hid fun w0 h => (clash_any p a b L M w0 HKA.out HKB.out H4.out G4.out h).mono fun e w' h => ⟨h.no hm, h.bel⟩
        have CRX : Hid (∀ w0, w0.rangeAt 0 0 (u32s ks) → Calls Tryd.prog 25 #[.int .i64 p, .agg (clc a L).toArray, .agg (clc b M).toArray] w0 fun e w' => e = .returned (.tuple #[.slice none 0 0, .slice none 0 0, .bool false]) ∧ Below w0.heap.size w0 w') := Lib.hid fun w0 h => (rclash_any p a b L M w0 HKA.out HKB.out H4.out G4.out h).mono fun e w' h => ⟨h.no hm, h.bel⟩
        have CS0 : Hid (∀ w0, Calls Tryd.prog 12 #[.slice none 0 0, .slice none 0 0] w0 fun e w' => e = .returned (.bool true) ∧ Below w0.heap.size w0 w') := Lib.hid fun w0 => Tg.same_any [] [] none none 0 0 w0 ⟨fun h => absurd rfl h⟩ ⟨fun h => absurd rfl h⟩ (by simp) (by simp)
        have HM := Lib.hid hm
        clear hm
        by_cases hra : NRt a.nm
        · by_cases hrb : NRt b.nm
          · have KD := Lib.hid (digA_ok a); have KE := Lib.hid (digA_ok b)
            have CHA : Hid (∀ w0, w0.rangeAt 1 0 (u32s ks) → Calls Tryd.prog 27 #[.agg (acs a).toArray] w0 fun e w' => e = .returned (.tuple #[.agg (u8s (digA a)).toArray, .int .i64 0]) ∧ Below w0.heap.size w0 w') := Lib.hid fun w0 h => (ahash_any a w0 HKA.out h).mono fun e w' h => ⟨by rw [h.ret]; rw [show ansH a = digA a from if_pos hra, show ansE a = 0 from if_pos hra]; rfl, h.bel⟩
            have CHB : Hid (∀ w0, w0.rangeAt 1 0 (u32s ks) → Calls Tryd.prog 27 #[.agg (acs b).toArray] w0 fun e w' => e = .returned (.tuple #[.agg (u8s (digA b)).toArray, .int .i64 0]) ∧ Below w0.heap.size w0 w') := Lib.hid fun w0 h => (ahash_any b w0 HKB.out h).mono fun e w' h => ⟨by rw [h.ret]; rw [show ansH b = digA b from if_pos hrb, show ansE b = 0 from if_pos hrb]; rfl, h.bel⟩
            by_cases hp : 0 ≤ p ∧ p < 16
            · obtain ⟨u, hu⟩ : ∃ d, d = leadK p.toNat L (digA a) 4 := ⟨_, rfl⟩
              obtain ⟨v, hv⟩ : ∃ d, d = leadK p.toNat M (digA b) 4 := ⟨_, rfl⟩
              have KU : Hid (H32 u) := Lib.hid (hu ▸ lead_ok (digA_ok a) 4)
              have KV : Hid (H32 v) := Lib.hid (hv ▸ lead_ok (digA_ok b) 4)
              have CLA : Hid (∀ w0, w0.rangeAt 1 0 (u32s ks) → Calls Tryd.prog 8 #[.int .i64 p, .agg (u8s (digA a)).toArray, .agg (dgC L).toArray] w0 fun e w' => e = .returned (.tuple #[.agg (u8s u).toArray, .int .i64 0]) ∧ Below w0.heap.size w0 w') := Lib.hid fun w0 h => (lead_any p L (digA a) w0 H4.out (digA_ok a) h).mono fun e w' h => ⟨by rw [h.ret, show leadI p L (digA a) = u from (if_pos hp).trans hu.symm, show pathE p = 0 from if_pos hp]; rfl, h.bel⟩
              have CLB : Hid (∀ w0, w0.rangeAt 1 0 (u32s ks) → Calls Tryd.prog 8 #[.int .i64 p, .agg (u8s (digA b)).toArray, .agg (dgC M).toArray] w0 fun e w' => e = .returned (.tuple #[.agg (u8s v).toArray, .int .i64 0]) ∧ Below w0.heap.size w0 w') := Lib.hid fun w0 h => (lead_any p M (digA b) w0 G4.out (digA_ok b) h).mono fun e w' h => ⟨by rw [h.ret, show leadI p M (digA b) = v from (if_pos hp).trans hv.symm, show pathE p = 0 from if_pos hp]; rfl, h.bel⟩
              have HMT := Lib.hid (fun (h1 : u = v) (h2 : ¬ a = b) => Bool.false_ne_true (HM.out.symm.trans (meet_of hra hrb hp (by rw [← hu, ← hv]; exact h1) h2)))
              clear hu hv hra hrb hp
              generalize digA a = da at *
              generalize digA b = db at *
              by_cases huv : u = v
              · have HAB : Hid (a = b) := Lib.hid (Classical.byContradiction fun h => HMT.out huv h)
                have HUV := Lib.hid huv
                clear huv HMT
                go_enter Tryd.func5, Tryd.ntmps5
                go_wp2_with (first
                  | ((with_reducible refine at_slot 4 ?_); (refine arm_box (o := ⟨some 4, _, _, _, _, _⟩) rfl _ _ rfl (clc a L) rfl ?_); intro A v1 Ae hv1 nv1; try simp only [Act.put, List.setIfInBounds_toArray, List.set_cons_zero, List.set_cons_succ])
                  | ((with_reducible refine at_slot 5 ?_); (refine arm_box (o := ⟨some 5, _, _, _, _, _⟩) rfl _ _ rfl (clc b M) rfl ?_); intro B v2 Be hv2 nv2; try simp only [Act.put, List.setIfInBounds_toArray, List.set_cons_zero, List.set_cons_succ]))
                have hbv1 := nv1.below
                have rrv1 : Row v1 A 60 (clc a L) := hv1
                have hbv2 := nv2.below
                have rrv2 : Row v2 B 60 (clc b M) := hv2
                have geA : w.heap.size ≤ A := by have := Ae.out; omega
                clear hv1 nv1 Ae
                have bel_3 : Below w.heap.size w v1 := hbv1
                clear hbv1
                have geB : w.heap.size ≤ B := by have := Be.out; have := bel_3.size; omega
                have ltAB : A < B := by have := Be.out; have := rrv1.lt; omega
                clear hv2 nv2 Be
                have A_4 : Row v2 A 60 (clc a L) := rrv1.old hbv2
                have bel_4 : Below w.heap.size w v2 := below_step bel_3 bel_3.size hbv2
                clear rrv1 bel_3 hbv2
                refine (CA.out _ (HKW.out _ bel_4)).mono ?_
                rintro e y5 ⟨rfl, hB⟩
                have A_6 : Row y5 A 60 (clc a L) := A_4.old hB
                have B_6 : Row y5 B 60 (clc b M) := rrv2.old hB
                have bel_6 : Below w.heap.size w y5 := below_step bel_4 bel_4.size hB
                clear A_4 rrv2 bel_4 hB
                go_wp2_with (first
                  | ((with_reducible refine at_slot 25 ?_); (refine arm_want (.string a.nm) 25 rfl (by kernel_rfl) (run_op_load1 _ _ rfl (.string) (by kernel_rfl) rfl ⟨A, 0, none⟩ rfl (.string a.nm) (A_6.cell HNA.out)) ?_); try simp only [Act.put, List.setIfInBounds_toArray, List.set_cons_zero, List.set_cons_succ])
                  | ((with_reducible refine at_slot 31 ?_); (refine arm_want (.string b.nm) 31 rfl (by kernel_rfl) (run_op_load1 _ _ rfl (.string) (by kernel_rfl) rfl ⟨B, 0, none⟩ rfl (.string b.nm) (B_6.cell HNB.out)) ?_); try simp only [Act.put, List.setIfInBounds_toArray, List.set_cons_zero, List.set_cons_succ])
                  | ((with_reducible refine at_slot 37 ?_); (refine arm_load (o := ⟨some 37, _, _, _, _, _⟩) rfl _ _ rfl A 0 rfl (clc a L) ((Has.refl _).range A_6) SA.out ?_); try simp only [Act.put, List.setIfInBounds_toArray, List.set_cons_zero, List.set_cons_succ])
                  | ((with_reducible refine at_slot 38 ?_); (refine arm_load (o := ⟨some 38, _, _, _, _, _⟩) rfl _ _ rfl B 0 rfl (clc b M) ((Has.refl _).range B_6) SB.out ?_); try simp only [Act.put, List.setIfInBounds_toArray, List.set_cons_zero, List.set_cons_succ]))
                refine (CX.out _ (HKW.out _ bel_6)).mono ?_
                rintro e y7 ⟨rfl, hB⟩
                have A_8 : Row y7 A 60 (clc a L) := A_6.old hB
                have B_8 : Row y7 B 60 (clc b M) := B_6.old hB
                have bel_8 : Below w.heap.size w y7 := below_step bel_6 bel_6.size hB
                clear A_6 B_6 bel_6 hB
                go_wp2_with fail
                refine wp_region_held (S := fun w' => Row w' A 60 (clc a L) ∧ Row w' B 60 (clc b M) ∧ True) (by kernel_rfl) ?_
                change wpAnyH _ _ _ _ _ _ _ _ y7.drew
                have hd9 : Below y7.heap.size y7 y7.drew := (Below.refl _ _).drew
                have A_10 : Row y7.drew A 60 (clc a L) := A_8.old hd9
                have B_10 : Row y7.drew B 60 (clc b M) := B_8.old hd9
                have bel_10 : Below w.heap.size w y7.drew := below_step bel_8 bel_8.size hd9
                clear A_8 B_8 bel_8 hd9
                generalize y7.drew = yz9 at A_10 B_10 bel_10 ⊢
                refine h_take 0 (.int .i64 p) rfl 44 rfl (by kernel_rfl) (by kernel_rfl) (by kernel_rfl) (by kernel_rfl) (fun _ _ _ h => h) (fun w' _ => by kernel_rfl) ⟨A_10, B_10, trivial⟩ ?_
                simp only [Act.put, List.setIfInBounds_toArray, List.set_cons_zero, List.set_cons_succ]
                refine h_take 1 (.pointer (some ⟨A, 0, none⟩)) rfl 45 rfl (by kernel_rfl) (by kernel_rfl) (by kernel_rfl) (by kernel_rfl) (fun _ _ _ h => h) (fun w' _ => by kernel_rfl) ⟨A_10, B_10, trivial⟩ ?_
                simp only [Act.put, List.setIfInBounds_toArray, List.set_cons_zero, List.set_cons_succ]
                refine h_take 2 (.agg (acs a).toArray) rfl 46 rfl (by kernel_rfl) (by kernel_rfl) (by kernel_rfl) (by kernel_rfl) (fun _ _ _ h => h) (fun w' hw => run_op_load _ _ rfl A (0) rfl (acs a) (((c_a a L)).range hw.1) (KA.out)) ⟨A_10, B_10, trivial⟩ ?_
                simp only [Act.put, List.setIfInBounds_toArray, List.set_cons_zero, List.set_cons_succ]
                refine h_take 4 (.pointer (some ⟨A, 3, none⟩)) rfl 48 rfl (by kernel_rfl) (by kernel_rfl) (by kernel_rfl) (by kernel_rfl) (fun _ _ _ h => h) (fun w' _ => by kernel_rfl) ⟨A_10, B_10, trivial⟩ ?_
                simp only [Act.put, List.setIfInBounds_toArray, List.set_cons_zero, List.set_cons_succ]
                refine h_take 5 (.agg (dgC L).toArray) rfl 49 rfl (by kernel_rfl) (by kernel_rfl) (by kernel_rfl) (by kernel_rfl) (fun _ _ _ h => h) (fun w' hw => run_op_load _ _ rfl A (3) rfl (dgC L) (((c_p a L)).range hw.1) (SPL.out)) ⟨A_10, B_10, trivial⟩ ?_
                simp only [Act.put, List.setIfInBounds_toArray, List.set_cons_zero, List.set_cons_succ]
                refine h_take 7 (.pointer (some ⟨B, 0, none⟩)) rfl 51 rfl (by kernel_rfl) (by kernel_rfl) (by kernel_rfl) (by kernel_rfl) (fun _ _ _ h => h) (fun w' _ => by kernel_rfl) ⟨A_10, B_10, trivial⟩ ?_
                simp only [Act.put, List.setIfInBounds_toArray, List.set_cons_zero, List.set_cons_succ]
                refine h_take 8 (.agg (acs b).toArray) rfl 52 rfl (by kernel_rfl) (by kernel_rfl) (by kernel_rfl) (by kernel_rfl) (fun _ _ _ h => h) (fun w' hw => run_op_load _ _ rfl B (0) rfl (acs b) (((c_a b M)).range hw.2.1) (KB.out)) ⟨A_10, B_10, trivial⟩ ?_
                simp only [Act.put, List.setIfInBounds_toArray, List.set_cons_zero, List.set_cons_succ]
                refine h_take 10 (.pointer (some ⟨B, 3, none⟩)) rfl 54 rfl (by kernel_rfl) (by kernel_rfl) (by kernel_rfl) (by kernel_rfl) (fun _ _ _ h => h) (fun w' _ => by kernel_rfl) ⟨A_10, B_10, trivial⟩ ?_
                simp only [Act.put, List.setIfInBounds_toArray, List.set_cons_zero, List.set_cons_succ]
                refine h_take 11 (.agg (dgC M).toArray) rfl 55 rfl (by kernel_rfl) (by kernel_rfl) (by kernel_rfl) (by kernel_rfl) (fun _ _ _ h => h) (fun w' hw => run_op_load _ _ rfl B (3) rfl (dgC M) (((c_p b M)).range hw.2.1) (SPM.out)) ⟨A_10, B_10, trivial⟩ ?_
                simp only [Act.put, List.setIfInBounds_toArray, List.set_cons_zero, List.set_cons_succ]
                refine h_one (i := 3) (by kernel_rfl) (o_call rfl 47 rfl (by kernel_rfl) (run_op_call 17 _ _ rfl #[.agg (acs a).toArray] (by simp only [List.map_toArray, List.map_cons, List.map_nil]; rfl) Tryd.func17 (by kernel_rfl) (by kernel_rfl) _) (COA.out _) ?_)
                rintro e y11 ⟨rfl, hB⟩
                have A_12 : Row y11 A 60 (clc a L) := A_10.old hB
                have B_12 : Row y11 B 60 (clc b M) := B_10.old hB
                have bel_12 : Below w.heap.size w y11 := below_step bel_10 bel_10.size hB
                clear A_10 B_10 bel_10 hB
                refine ⟨_, rfl, ⟨A_12, B_12, trivial⟩, ?_⟩
                simp only [Act.put, List.setIfInBounds_toArray, List.set_cons_zero, List.set_cons_succ]
                refine h_take 6 (.agg (clc a L).toArray) rfl 50 rfl (by kernel_rfl) (by kernel_rfl) (by kernel_rfl) (by kernel_rfl) (fun _ _ _ h => h) (fun w' _ => run_op_build _ _ rfl _ (by simp only [List.map_toArray, List.map_cons, List.map_nil]; exact BA.out) w') ⟨A_12, B_12, trivial⟩ ?_
                simp only [Act.put, List.setIfInBounds_toArray, List.set_cons_zero, List.set_cons_succ]
                refine h_one (i := 9) (by kernel_rfl) (o_call rfl 53 rfl (by kernel_rfl) (run_op_call 17 _ _ rfl #[.agg (acs b).toArray] (by simp only [List.map_toArray, List.map_cons, List.map_nil]; rfl) Tryd.func17 (by kernel_rfl) (by kernel_rfl) _) (COB.out _) ?_)
                rintro e y13 ⟨rfl, hB⟩
                have A_14 : Row y13 A 60 (clc a L) := A_12.old hB
                have B_14 : Row y13 B 60 (clc b M) := B_12.old hB
                have bel_14 : Below w.heap.size w y13 := below_step bel_12 bel_12.size hB
                clear A_12 B_12 bel_12 hB
                refine ⟨_, rfl, ⟨A_14, B_14, trivial⟩, ?_⟩
                simp only [Act.put, List.setIfInBounds_toArray, List.set_cons_zero, List.set_cons_succ]
                refine h_take 12 (.agg (clc b M).toArray) rfl 56 rfl (by kernel_rfl) (by kernel_rfl) (by kernel_rfl) (by kernel_rfl) (fun _ _ _ h => h) (fun w' _ => run_op_build _ _ rfl _ (by simp only [List.map_toArray, List.map_cons, List.map_nil]; exact BB.out) w') ⟨A_14, B_14, trivial⟩ ?_
                simp only [Act.put, List.setIfInBounds_toArray, List.set_cons_zero, List.set_cons_succ]
                refine h_one (i := 13) (by kernel_rfl) (o_call rfl 57 rfl (by kernel_rfl) (run_op_call 25 _ _ rfl #[.int .i64 p, .agg (clc a L).toArray, .agg (clc b M).toArray] (by simp only [List.map_toArray, List.map_cons, List.map_nil]; rfl) Tryd.func25 (by kernel_rfl) (by kernel_rfl) _) (CRX.out _ (HKW2.out _ bel_14)) ?_)
                rintro e y15 ⟨rfl, hB⟩
                have A_16 : Row y15 A 60 (clc a L) := A_14.old hB
                have B_16 : Row y15 B 60 (clc b M) := B_14.old hB
                have bel_16 : Below w.heap.size w y15 := below_step bel_14 bel_14.size hB
                clear A_14 B_14 bel_14 hB
                refine ⟨_, rfl, ⟨A_16, B_16, trivial⟩, ?_⟩
                simp only [Act.put, List.setIfInBounds_toArray, List.set_cons_zero, List.set_cons_succ]
                refine h_take 14 (.tuple #[.slice none 0 0, .slice none 0 0, .bool false]) rfl 43 rfl (by kernel_rfl) (by kernel_rfl) (by kernel_rfl) (by kernel_rfl) (fun _ _ _ h => h) (fun w' _ => by kernel_rfl) ⟨A_16, B_16, trivial⟩ ?_
                simp only [Act.put, List.setIfInBounds_toArray, List.set_cons_zero, List.set_cons_succ]
                refine h_take 15 (.slice none 0 0) rfl 58 rfl (by kernel_rfl) (by kernel_rfl) (by kernel_rfl) (by kernel_rfl) (fun _ _ _ h => h) (fun w' _ => by kernel_rfl) ⟨A_16, B_16, trivial⟩ ?_
                simp only [Act.put, List.setIfInBounds_toArray, List.set_cons_zero, List.set_cons_succ]
                refine h_take 16 (.slice none 0 0) rfl 59 rfl (by kernel_rfl) (by kernel_rfl) (by kernel_rfl) (by kernel_rfl) (fun _ _ _ h => h) (fun w' _ => by kernel_rfl) ⟨A_16, B_16, trivial⟩ ?_
                simp only [Act.put, List.setIfInBounds_toArray, List.set_cons_zero, List.set_cons_succ]
                refine h_take 17 (.bool false) rfl 60 rfl (by kernel_rfl) (by kernel_rfl) (by kernel_rfl) (by kernel_rfl) (fun _ _ _ h => h) (fun w' _ => by kernel_rfl) ⟨A_16, B_16, trivial⟩ ?_
                simp only [Act.put, List.setIfInBounds_toArray, List.set_cons_zero, List.set_cons_succ]
                refine h_take 18 (.slice none 0 0) rfl 10 rfl (by kernel_rfl) (by kernel_rfl) (by kernel_rfl) (by kernel_rfl) (fun _ _ _ h => h) (fun w' _ => by kernel_rfl) ⟨A_16, B_16, trivial⟩ ?_
                simp only [Act.put, List.setIfInBounds_toArray, List.set_cons_zero, List.set_cons_succ]
                refine h_take 19 (.slice none 0 0) rfl 11 rfl (by kernel_rfl) (by kernel_rfl) (by kernel_rfl) (by kernel_rfl) (fun _ _ _ h => h) (fun w' _ => by kernel_rfl) ⟨A_16, B_16, trivial⟩ ?_
                simp only [Act.put, List.setIfInBounds_toArray, List.set_cons_zero, List.set_cons_succ]
                refine h_take 20 (.bool false) rfl 12 rfl (by kernel_rfl) (by kernel_rfl) (by kernel_rfl) (by kernel_rfl) (fun _ _ _ h => h) (fun w' _ => by kernel_rfl) ⟨A_16, B_16, trivial⟩ ?_
                simp only [Act.put, List.setIfInBounds_toArray, List.set_cons_zero, List.set_cons_succ]
                refine wpAnyH_done (by kernel_rfl) ?_ _
                go_wp2_with (first
                  | ((with_reducible refine at_slot 63 ?_); (refine arm_want (.bool false) 63 rfl (by kernel_rfl) (run_op_neqBB _ _ _ rfl false false rfl rfl false rfl _) ?_); try simp only [Act.put, List.setIfInBounds_toArray, List.set_cons_zero, List.set_cons_succ]))
                refine (CS0.out _).mono ?_
                rintro e y17 ⟨rfl, hB⟩
                have A_18 : Row y17 A 60 (clc a L) := A_16.old hB
                have B_18 : Row y17 B 60 (clc b M) := B_16.old hB
                have bel_18 : Below w.heap.size w y17 := below_step bel_16 bel_16.size hB
                clear A_16 B_16 bel_16 hB
                go_wp2_with fail
                refine (CS0.out _).mono ?_
                rintro e y19 ⟨rfl, hB⟩
                have A_20 : Row y19 A 60 (clc a L) := A_18.old hB
                have B_20 : Row y19 B 60 (clc b M) := B_18.old hB
                have bel_20 : Below w.heap.size w y19 := below_step bel_18 bel_18.size hB
                clear A_18 B_18 bel_18 hB
                go_wp2_with (first
                  | ((with_reducible refine at_slot 91 ?_); (refine arm_load (o := ⟨some 91, _, _, _, _, _⟩) rfl _ _ rfl A 0 rfl (acs a) ((c_a a L).range A_20) KA.out ?_); try simp only [Act.put, List.setIfInBounds_toArray, List.set_cons_zero, List.set_cons_succ]))
                refine (CHA.out _ (HKW.out _ bel_20)).mono ?_
                rintro e y21 ⟨rfl, hB⟩
                have A_22 : Row y21 A 60 (clc a L) := A_20.old hB
                have B_22 : Row y21 B 60 (clc b M) := B_20.old hB
                have bel_22 : Below w.heap.size w y21 := below_step bel_20 bel_20.size hB
                clear A_20 B_20 bel_20 hB
                go_wp2_with (first
                  | ((with_reducible refine at_slot 13 ?_); (refine arm_alloc (o := ⟨some 13, _, _, _, _, _⟩) rfl _ rfl (u8s zh) zH ?_); intro D v23a De hDa nD; try simp only [Act.put, List.setIfInBounds_toArray, List.set_cons_zero, List.set_cons_succ])
                  | ((with_reducible refine arm_store (o := ⟨none, _, _, _, _, _⟩) rfl _ _ _ rfl D 0 rfl (u8s da) rfl _ _ hDa (fitH KD.out) (u8s_one _) (szH KD.out) ?_); intro v23 hDb oD sD; try simp only [Act.put, List.setIfInBounds_toArray, List.set_cons_zero, List.set_cons_succ])
                  | ((with_reducible refine at_slot 97 ?_); (refine arm_load (o := ⟨some 97, _, _, _, _, _⟩) rfl _ _ rfl B 0 rfl (acs b) ((c_a b M).range ((B_22.old nD.below).only oD (by have := De.out; have := B_22.lt; omega))) KB.out ?_); try simp only [Act.put, List.setIfInBounds_toArray, List.set_cons_zero, List.set_cons_succ]))
                have lD : y21.heap.size ≤ D := by have := De.out; omega
                have bD : Below y21.heap.size y21 v23 := below_only nD.below oD lD nD.below.size
                have rrD : Row v23 D 23 (u8s da) := hDb.congr (allH KD.out)
                have geD : w.heap.size ≤ D := Nat.le_trans bel_22.size lD
                clear hDa hDb nD oD sD De lD
                have A_24 : Row v23 A 60 (clc a L) := A_22.old bD
                have B_24 : Row v23 B 60 (clc b M) := B_22.old bD
                have bel_24 : Below w.heap.size w v23 := below_step bel_22 bel_22.size bD
                clear A_22 B_22 bel_22 bD
                refine (CHB.out _ (HKW.out _ bel_24)).mono ?_
                rintro e y25 ⟨rfl, hB⟩
                have A_26 : Row y25 A 60 (clc a L) := A_24.old hB
                have B_26 : Row y25 B 60 (clc b M) := B_24.old hB
                have D_26 : Row y25 D 23 (u8s da) := rrD.old hB
                have bel_26 : Below w.heap.size w y25 := below_step bel_24 bel_24.size hB
                clear A_24 B_24 rrD bel_24 hB
                go_wp2_with (first
                  | ((with_reducible refine at_slot 15 ?_); (refine arm_alloc (o := ⟨some 15, _, _, _, _, _⟩) rfl _ rfl (u8s zh) zH ?_); intro E v27a Ee hEa nE; try simp only [Act.put, List.setIfInBounds_toArray, List.set_cons_zero, List.set_cons_succ])
                  | ((with_reducible refine arm_store (o := ⟨none, _, _, _, _, _⟩) rfl _ _ _ rfl E 0 rfl (u8s db) rfl _ _ hEa (fitH KE.out) (u8s_one _) (szH KE.out) ?_); intro v27 hEb oE sE; try simp only [Act.put, List.setIfInBounds_toArray, List.set_cons_zero, List.set_cons_succ])
                  | ((with_reducible refine at_slot 102 ?_); (refine arm_want (.bool false) 102 rfl (by kernel_rfl) (cmp_neq _ _ .i64 (by kernel_rfl) _ _ rfl .i64 (0) (0) rfl rfl false (by decide) _) ?_); try simp only [Act.put, List.setIfInBounds_toArray, List.set_cons_zero, List.set_cons_succ])
                  | ((with_reducible refine at_slot 105 ?_); (refine arm_want (.bool false) 105 rfl (by kernel_rfl) (cmp_neq _ _ .i64 (by kernel_rfl) _ _ rfl .i64 (0) (0) rfl rfl false (by decide) _) ?_); try simp only [Act.put, List.setIfInBounds_toArray, List.set_cons_zero, List.set_cons_succ])
                  | ((with_reducible refine at_slot 111 ?_); (refine arm_load (o := ⟨some 111, _, _, _, _, _⟩) rfl _ _ rfl D 0 rfl (u8s da) ((Has.refl _).range ((D_26.old nE.below).only oE (by have := Ee.out; have := D_26.lt; omega))) (szH KD.out) ?_); try simp only [Act.put, List.setIfInBounds_toArray, List.set_cons_zero, List.set_cons_succ])
                  | ((with_reducible refine at_slot 113 ?_); (refine arm_load (o := ⟨some 113, _, _, _, _, _⟩) rfl _ _ rfl A 3 rfl (dgC L) ((c_p a L).range ((A_26.old nE.below).only oE (by have := Ee.out; have := A_26.lt; omega))) SPL.out ?_); try simp only [Act.put, List.setIfInBounds_toArray, List.set_cons_zero, List.set_cons_succ]))
                have lE : y25.heap.size ≤ E := by have := Ee.out; omega
                have bE : Below y25.heap.size y25 v27 := below_only nE.below oE lE nE.below.size
                have rrE : Row v27 E 23 (u8s db) := hEb.congr (allH KE.out)
                have geE : w.heap.size ≤ E := Nat.le_trans bel_26.size lE
                clear hEa hEb nE oE sE Ee lE
                have A_28 : Row v27 A 60 (clc a L) := A_26.old bE
                have B_28 : Row v27 B 60 (clc b M) := B_26.old bE
                have D_28 : Row v27 D 23 (u8s da) := D_26.old bE
                have bel_28 : Below w.heap.size w v27 := below_step bel_26 bel_26.size bE
                clear A_26 B_26 D_26 bel_26 bE
                refine (CLA.out _ (HKW.out _ bel_28)).mono ?_
                rintro e y29 ⟨rfl, hB⟩
                have A_30 : Row y29 A 60 (clc a L) := A_28.old hB
                have B_30 : Row y29 B 60 (clc b M) := B_28.old hB
                have D_30 : Row y29 D 23 (u8s da) := D_28.old hB
                have E_30 : Row y29 E 23 (u8s db) := rrE.old hB
                have bel_30 : Below w.heap.size w y29 := below_step bel_28 bel_28.size hB
                clear A_28 B_28 D_28 rrE bel_28 hB
                go_wp2_with (first
                  | ((with_reducible refine at_slot 17 ?_); (refine arm_alloc (o := ⟨some 17, _, _, _, _, _⟩) rfl _ rfl (u8s zh) zH ?_); intro F v31a Fe hFa nF; try simp only [Act.put, List.setIfInBounds_toArray, List.set_cons_zero, List.set_cons_succ])
                  | ((with_reducible refine arm_store (o := ⟨none, _, _, _, _, _⟩) rfl _ _ _ rfl F 0 rfl (u8s u) rfl _ _ hFa (fitH KU.out) (u8s_one _) (szH KU.out) ?_); intro v31 hFb oF sF; try simp only [Act.put, List.setIfInBounds_toArray, List.set_cons_zero, List.set_cons_succ])
                  | ((with_reducible refine at_slot 119 ?_); (refine arm_load (o := ⟨some 119, _, _, _, _, _⟩) rfl _ _ rfl E 0 rfl (u8s db) ((Has.refl _).range ((E_30.old nF.below).only oF (by have := Fe.out; have := E_30.lt; omega))) (szH KE.out) ?_); try simp only [Act.put, List.setIfInBounds_toArray, List.set_cons_zero, List.set_cons_succ])
                  | ((with_reducible refine at_slot 121 ?_); (refine arm_load (o := ⟨some 121, _, _, _, _, _⟩) rfl _ _ rfl B 3 rfl (dgC M) ((c_p b M).range ((B_30.old nF.below).only oF (by have := Fe.out; have := B_30.lt; omega))) SPM.out ?_); try simp only [Act.put, List.setIfInBounds_toArray, List.set_cons_zero, List.set_cons_succ]))
                have lF : y29.heap.size ≤ F := by have := Fe.out; omega
                have bF : Below y29.heap.size y29 v31 := below_only nF.below oF lF nF.below.size
                have rrF : Row v31 F 23 (u8s u) := hFb.congr (allH KU.out)
                have geF : w.heap.size ≤ F := Nat.le_trans bel_30.size lF
                clear hFa hFb nF oF sF Fe lF
                have A_32 : Row v31 A 60 (clc a L) := A_30.old bF
                have B_32 : Row v31 B 60 (clc b M) := B_30.old bF
                have D_32 : Row v31 D 23 (u8s da) := D_30.old bF
                have E_32 : Row v31 E 23 (u8s db) := E_30.old bF
                have bel_32 : Below w.heap.size w v31 := below_step bel_30 bel_30.size bF
                clear A_30 B_30 D_30 E_30 bel_30 bF
                refine (CLB.out _ (HKW.out _ bel_32)).mono ?_
                rintro e y33 ⟨rfl, hB⟩
                have A_34 : Row y33 A 60 (clc a L) := A_32.old hB
                have B_34 : Row y33 B 60 (clc b M) := B_32.old hB
                have D_34 : Row y33 D 23 (u8s da) := D_32.old hB
                have E_34 : Row y33 E 23 (u8s db) := E_32.old hB
                have F_34 : Row y33 F 23 (u8s u) := rrF.old hB
                have bel_34 : Below w.heap.size w y33 := below_step bel_32 bel_32.size hB
                clear A_32 B_32 D_32 E_32 rrF bel_32 hB
                go_wp2_with (first
                  | ((with_reducible refine at_slot 19 ?_); (refine arm_alloc (o := ⟨some 19, _, _, _, _, _⟩) rfl _ rfl (u8s zh) zH ?_); intro G v35a Ge hGa nG; try simp only [Act.put, List.setIfInBounds_toArray, List.set_cons_zero, List.set_cons_succ])
                  | ((with_reducible refine arm_store (o := ⟨none, _, _, _, _, _⟩) rfl _ _ _ rfl G 0 rfl (u8s v) rfl _ _ hGa (fitH KV.out) (u8s_one _) (szH KV.out) ?_); intro v35 hGb oG sG; try simp only [Act.put, List.setIfInBounds_toArray, List.set_cons_zero, List.set_cons_succ])
                  | ((with_reducible refine at_slot 127 ?_); (refine arm_want (.bool true) 127 rfl (by kernel_rfl) (cmp_eql _ _ .i64 (by kernel_rfl) _ _ rfl .i64 (0) (0) rfl rfl true (by decide) _) ?_); try simp only [Act.put, List.setIfInBounds_toArray, List.set_cons_zero, List.set_cons_succ])
                  | ((with_reducible refine at_slot 130 ?_); (refine arm_want (.bool true) 130 rfl (by kernel_rfl) (cmp_eql _ _ .i64 (by kernel_rfl) _ _ rfl .i64 (0) (0) rfl rfl true (by decide) _) ?_); try simp only [Act.put, List.setIfInBounds_toArray, List.set_cons_zero, List.set_cons_succ])
                  | ((with_reducible refine at_slot 133 ?_); (refine arm_want (.agg (u8s u).toArray) 133 rfl (by kernel_rfl) (run_op_load _ _ rfl F 0 rfl (u8s u) ((Has.refl _).range ((F_34.old nG.below).only oG (by have := Ge.out; have := F_34.lt; omega))) (szH KU.out)) ?_); try simp only [Act.put, List.setIfInBounds_toArray, List.set_cons_zero, List.set_cons_succ])
                  | ((with_reducible refine at_slot 134 ?_); (refine arm_want (.agg (u8s v).toArray) 134 rfl (by kernel_rfl) (run_op_load _ _ rfl G 0 rfl (u8s v) ((Has.refl _).range (hGb.congr (allH KV.out))) (szH KV.out)) ?_); try simp only [Act.put, List.setIfInBounds_toArray, List.set_cons_zero, List.set_cons_succ])
                  | ((with_reducible refine at_slot 135 ?_); (refine arm_want (.bool true) 135 rfl (by kernel_rfl) (run_op_eqlD KU.out KV.out _ _ _ rfl rfl rfl true (iff_of_true rfl HUV.out) _) ?_); try simp only [Act.put, List.setIfInBounds_toArray, List.set_cons_zero, List.set_cons_succ])
                  | ((with_reducible refine at_slot 139 ?_); (refine arm_want (.agg (acs a).toArray) 139 rfl (by kernel_rfl) (run_op_load _ _ rfl A 0 rfl (acs a) ((c_a a L).range ((A_34.old nG.below).only oG (by have := Ge.out; have := A_34.lt; omega))) KA.out) ?_); try simp only [Act.put, List.setIfInBounds_toArray, List.set_cons_zero, List.set_cons_succ])
                  | ((with_reducible refine at_slot 141 ?_); (refine arm_want (.agg (acs b).toArray) 141 rfl (by kernel_rfl) (run_op_load _ _ rfl B 0 rfl (acs b) ((c_a b M).range ((B_34.old nG.below).only oG (by have := Ge.out; have := B_34.lt; omega))) KB.out) ?_); try simp only [Act.put, List.setIfInBounds_toArray, List.set_cons_zero, List.set_cons_succ])
                  | ((with_reducible refine at_slot 142 ?_); (refine arm_want (.bool false) 142 rfl (by kernel_rfl) (run_op_neqA _ _ _ rfl a b rfl rfl true (iff_of_true rfl HAB.out) _) ?_); try simp only [Act.put, List.setIfInBounds_toArray, List.set_cons_zero, List.set_cons_succ])
                  | ((with_reducible refine at_slot 144 ?_); (refine arm_want (.bool true) 144 rfl (by kernel_rfl) (run_op_eqlBB _ _ _ rfl false false rfl rfl true rfl _) ?_); try simp only [Act.put, List.setIfInBounds_toArray, List.set_cons_zero, List.set_cons_succ]))
                have lG : y33.heap.size ≤ G := by have := Ge.out; omega
                have bG : Below y33.heap.size y33 v35 := below_only nG.below oG lG nG.below.size
                have rrG : Row v35 G 23 (u8s v) := hGb.congr (allH KV.out)
                have geG : w.heap.size ≤ G := Nat.le_trans bel_34.size lG
                clear hGa hGb nG oG sG Ge lG
                have A_36 : Row v35 A 60 (clc a L) := A_34.old bG
                have B_36 : Row v35 B 60 (clc b M) := B_34.old bG
                have D_36 : Row v35 D 23 (u8s da) := D_34.old bG
                have E_36 : Row v35 E 23 (u8s db) := E_34.old bG
                have F_36 : Row v35 F 23 (u8s u) := F_34.old bG
                have bel_36 : Below w.heap.size w v35 := below_step bel_34 bel_34.size bG
                clear A_34 B_34 D_34 E_34 F_34 bel_34 bG
                go_ret
                exact ⟨rfl, bel_36⟩
              · have HUV := Lib.hid huv
                clear huv HMT
                go_enter Tryd.func5, Tryd.ntmps5
                go_wp2_with (first
                  | ((with_reducible refine at_slot 4 ?_); (refine arm_box (o := ⟨some 4, _, _, _, _, _⟩) rfl _ _ rfl (clc a L) rfl ?_); intro A v1 Ae hv1 nv1; try simp only [Act.put, List.setIfInBounds_toArray, List.set_cons_zero, List.set_cons_succ])
                  | ((with_reducible refine at_slot 5 ?_); (refine arm_box (o := ⟨some 5, _, _, _, _, _⟩) rfl _ _ rfl (clc b M) rfl ?_); intro B v2 Be hv2 nv2; try simp only [Act.put, List.setIfInBounds_toArray, List.set_cons_zero, List.set_cons_succ]))
                have hbv1 := nv1.below
                have rrv1 : Row v1 A 60 (clc a L) := hv1
                have hbv2 := nv2.below
                have rrv2 : Row v2 B 60 (clc b M) := hv2
                have geA : w.heap.size ≤ A := by have := Ae.out; omega
                clear hv1 nv1 Ae
                have bel_3 : Below w.heap.size w v1 := hbv1
                clear hbv1
                have geB : w.heap.size ≤ B := by have := Be.out; have := bel_3.size; omega
                have ltAB : A < B := by have := Be.out; have := rrv1.lt; omega
                clear hv2 nv2 Be
                have A_4 : Row v2 A 60 (clc a L) := rrv1.old hbv2
                have bel_4 : Below w.heap.size w v2 := below_step bel_3 bel_3.size hbv2
                clear rrv1 bel_3 hbv2
                refine (CA.out _ (HKW.out _ bel_4)).mono ?_
                rintro e y5 ⟨rfl, hB⟩
                have A_6 : Row y5 A 60 (clc a L) := A_4.old hB
                have B_6 : Row y5 B 60 (clc b M) := rrv2.old hB
                have bel_6 : Below w.heap.size w y5 := below_step bel_4 bel_4.size hB
                clear A_4 rrv2 bel_4 hB
                go_wp2_with (first
                  | ((with_reducible refine at_slot 25 ?_); (refine arm_want (.string a.nm) 25 rfl (by kernel_rfl) (run_op_load1 _ _ rfl (.string) (by kernel_rfl) rfl ⟨A, 0, none⟩ rfl (.string a.nm) (A_6.cell HNA.out)) ?_); try simp only [Act.put, List.setIfInBounds_toArray, List.set_cons_zero, List.set_cons_succ])
                  | ((with_reducible refine at_slot 31 ?_); (refine arm_want (.string b.nm) 31 rfl (by kernel_rfl) (run_op_load1 _ _ rfl (.string) (by kernel_rfl) rfl ⟨B, 0, none⟩ rfl (.string b.nm) (B_6.cell HNB.out)) ?_); try simp only [Act.put, List.setIfInBounds_toArray, List.set_cons_zero, List.set_cons_succ])
                  | ((with_reducible refine at_slot 37 ?_); (refine arm_load (o := ⟨some 37, _, _, _, _, _⟩) rfl _ _ rfl A 0 rfl (clc a L) ((Has.refl _).range A_6) SA.out ?_); try simp only [Act.put, List.setIfInBounds_toArray, List.set_cons_zero, List.set_cons_succ])
                  | ((with_reducible refine at_slot 38 ?_); (refine arm_load (o := ⟨some 38, _, _, _, _, _⟩) rfl _ _ rfl B 0 rfl (clc b M) ((Has.refl _).range B_6) SB.out ?_); try simp only [Act.put, List.setIfInBounds_toArray, List.set_cons_zero, List.set_cons_succ]))
                refine (CX.out _ (HKW.out _ bel_6)).mono ?_
                rintro e y7 ⟨rfl, hB⟩
                have A_8 : Row y7 A 60 (clc a L) := A_6.old hB
                have B_8 : Row y7 B 60 (clc b M) := B_6.old hB
                have bel_8 : Below w.heap.size w y7 := below_step bel_6 bel_6.size hB
                clear A_6 B_6 bel_6 hB
                go_wp2_with fail
                refine wp_region_held (S := fun w' => Row w' A 60 (clc a L) ∧ Row w' B 60 (clc b M) ∧ True) (by kernel_rfl) ?_
                change wpAnyH _ _ _ _ _ _ _ _ y7.drew
                have hd9 : Below y7.heap.size y7 y7.drew := (Below.refl _ _).drew
                have A_10 : Row y7.drew A 60 (clc a L) := A_8.old hd9
                have B_10 : Row y7.drew B 60 (clc b M) := B_8.old hd9
                have bel_10 : Below w.heap.size w y7.drew := below_step bel_8 bel_8.size hd9
                clear A_8 B_8 bel_8 hd9
                generalize y7.drew = yz9 at A_10 B_10 bel_10 ⊢
                refine h_take 0 (.int .i64 p) rfl 44 rfl (by kernel_rfl) (by kernel_rfl) (by kernel_rfl) (by kernel_rfl) (fun _ _ _ h => h) (fun w' _ => by kernel_rfl) ⟨A_10, B_10, trivial⟩ ?_
                simp only [Act.put, List.setIfInBounds_toArray, List.set_cons_zero, List.set_cons_succ]
                refine h_take 1 (.pointer (some ⟨A, 0, none⟩)) rfl 45 rfl (by kernel_rfl) (by kernel_rfl) (by kernel_rfl) (by kernel_rfl) (fun _ _ _ h => h) (fun w' _ => by kernel_rfl) ⟨A_10, B_10, trivial⟩ ?_
                simp only [Act.put, List.setIfInBounds_toArray, List.set_cons_zero, List.set_cons_succ]
                refine h_take 2 (.agg (acs a).toArray) rfl 46 rfl (by kernel_rfl) (by kernel_rfl) (by kernel_rfl) (by kernel_rfl) (fun _ _ _ h => h) (fun w' hw => run_op_load _ _ rfl A (0) rfl (acs a) (((c_a a L)).range hw.1) (KA.out)) ⟨A_10, B_10, trivial⟩ ?_
                simp only [Act.put, List.setIfInBounds_toArray, List.set_cons_zero, List.set_cons_succ]
                refine h_take 4 (.pointer (some ⟨A, 3, none⟩)) rfl 48 rfl (by kernel_rfl) (by kernel_rfl) (by kernel_rfl) (by kernel_rfl) (fun _ _ _ h => h) (fun w' _ => by kernel_rfl) ⟨A_10, B_10, trivial⟩ ?_
                simp only [Act.put, List.setIfInBounds_toArray, List.set_cons_zero, List.set_cons_succ]
                refine h_take 5 (.agg (dgC L).toArray) rfl 49 rfl (by kernel_rfl) (by kernel_rfl) (by kernel_rfl) (by kernel_rfl) (fun _ _ _ h => h) (fun w' hw => run_op_load _ _ rfl A (3) rfl (dgC L) (((c_p a L)).range hw.1) (SPL.out)) ⟨A_10, B_10, trivial⟩ ?_
                simp only [Act.put, List.setIfInBounds_toArray, List.set_cons_zero, List.set_cons_succ]
                refine h_take 7 (.pointer (some ⟨B, 0, none⟩)) rfl 51 rfl (by kernel_rfl) (by kernel_rfl) (by kernel_rfl) (by kernel_rfl) (fun _ _ _ h => h) (fun w' _ => by kernel_rfl) ⟨A_10, B_10, trivial⟩ ?_
                simp only [Act.put, List.setIfInBounds_toArray, List.set_cons_zero, List.set_cons_succ]
                refine h_take 8 (.agg (acs b).toArray) rfl 52 rfl (by kernel_rfl) (by kernel_rfl) (by kernel_rfl) (by kernel_rfl) (fun _ _ _ h => h) (fun w' hw => run_op_load _ _ rfl B (0) rfl (acs b) (((c_a b M)).range hw.2.1) (KB.out)) ⟨A_10, B_10, trivial⟩ ?_
                simp only [Act.put, List.setIfInBounds_toArray, List.set_cons_zero, List.set_cons_succ]
                refine h_take 10 (.pointer (some ⟨B, 3, none⟩)) rfl 54 rfl (by kernel_rfl) (by kernel_rfl) (by kernel_rfl) (by kernel_rfl) (fun _ _ _ h => h) (fun w' _ => by kernel_rfl) ⟨A_10, B_10, trivial⟩ ?_
                simp only [Act.put, List.setIfInBounds_toArray, List.set_cons_zero, List.set_cons_succ]
                refine h_take 11 (.agg (dgC M).toArray) rfl 55 rfl (by kernel_rfl) (by kernel_rfl) (by kernel_rfl) (by kernel_rfl) (fun _ _ _ h => h) (fun w' hw => run_op_load _ _ rfl B (3) rfl (dgC M) (((c_p b M)).range hw.2.1) (SPM.out)) ⟨A_10, B_10, trivial⟩ ?_
                simp only [Act.put, List.setIfInBounds_toArray, List.set_cons_zero, List.set_cons_succ]
                refine h_one (i := 3) (by kernel_rfl) (o_call rfl 47 rfl (by kernel_rfl) (run_op_call 17 _ _ rfl #[.agg (acs a).toArray] (by simp only [List.map_toArray, List.map_cons, List.map_nil]; rfl) Tryd.func17 (by kernel_rfl) (by kernel_rfl) _) (COA.out _) ?_)
                rintro e y11 ⟨rfl, hB⟩
                have A_12 : Row y11 A 60 (clc a L) := A_10.old hB
                have B_12 : Row y11 B 60 (clc b M) := B_10.old hB
                have bel_12 : Below w.heap.size w y11 := below_step bel_10 bel_10.size hB
                clear A_10 B_10 bel_10 hB
                refine ⟨_, rfl, ⟨A_12, B_12, trivial⟩, ?_⟩
                simp only [Act.put, List.setIfInBounds_toArray, List.set_cons_zero, List.set_cons_succ]
                refine h_take 6 (.agg (clc a L).toArray) rfl 50 rfl (by kernel_rfl) (by kernel_rfl) (by kernel_rfl) (by kernel_rfl) (fun _ _ _ h => h) (fun w' _ => run_op_build _ _ rfl _ (by simp only [List.map_toArray, List.map_cons, List.map_nil]; exact BA.out) w') ⟨A_12, B_12, trivial⟩ ?_
                simp only [Act.put, List.setIfInBounds_toArray, List.set_cons_zero, List.set_cons_succ]
                refine h_one (i := 9) (by kernel_rfl) (o_call rfl 53 rfl (by kernel_rfl) (run_op_call 17 _ _ rfl #[.agg (acs b).toArray] (by simp only [List.map_toArray, List.map_cons, List.map_nil]; rfl) Tryd.func17 (by kernel_rfl) (by kernel_rfl) _) (COB.out _) ?_)
                rintro e y13 ⟨rfl, hB⟩
                have A_14 : Row y13 A 60 (clc a L) := A_12.old hB
                have B_14 : Row y13 B 60 (clc b M) := B_12.old hB
                have bel_14 : Below w.heap.size w y13 := below_step bel_12 bel_12.size hB
                clear A_12 B_12 bel_12 hB
                refine ⟨_, rfl, ⟨A_14, B_14, trivial⟩, ?_⟩
                simp only [Act.put, List.setIfInBounds_toArray, List.set_cons_zero, List.set_cons_succ]
                refine h_take 12 (.agg (clc b M).toArray) rfl 56 rfl (by kernel_rfl) (by kernel_rfl) (by kernel_rfl) (by kernel_rfl) (fun _ _ _ h => h) (fun w' _ => run_op_build _ _ rfl _ (by simp only [List.map_toArray, List.map_cons, List.map_nil]; exact BB.out) w') ⟨A_14, B_14, trivial⟩ ?_
                simp only [Act.put, List.setIfInBounds_toArray, List.set_cons_zero, List.set_cons_succ]
                refine h_one (i := 13) (by kernel_rfl) (o_call rfl 57 rfl (by kernel_rfl) (run_op_call 25 _ _ rfl #[.int .i64 p, .agg (clc a L).toArray, .agg (clc b M).toArray] (by simp only [List.map_toArray, List.map_cons, List.map_nil]; rfl) Tryd.func25 (by kernel_rfl) (by kernel_rfl) _) (CRX.out _ (HKW2.out _ bel_14)) ?_)
                rintro e y15 ⟨rfl, hB⟩
                have A_16 : Row y15 A 60 (clc a L) := A_14.old hB
                have B_16 : Row y15 B 60 (clc b M) := B_14.old hB
                have bel_16 : Below w.heap.size w y15 := below_step bel_14 bel_14.size hB
                clear A_14 B_14 bel_14 hB
                refine ⟨_, rfl, ⟨A_16, B_16, trivial⟩, ?_⟩
                simp only [Act.put, List.setIfInBounds_toArray, List.set_cons_zero, List.set_cons_succ]
                refine h_take 14 (.tuple #[.slice none 0 0, .slice none 0 0, .bool false]) rfl 43 rfl (by kernel_rfl) (by kernel_rfl) (by kernel_rfl) (by kernel_rfl) (fun _ _ _ h => h) (fun w' _ => by kernel_rfl) ⟨A_16, B_16, trivial⟩ ?_
                simp only [Act.put, List.setIfInBounds_toArray, List.set_cons_zero, List.set_cons_succ]
                refine h_take 15 (.slice none 0 0) rfl 58 rfl (by kernel_rfl) (by kernel_rfl) (by kernel_rfl) (by kernel_rfl) (fun _ _ _ h => h) (fun w' _ => by kernel_rfl) ⟨A_16, B_16, trivial⟩ ?_
                simp only [Act.put, List.setIfInBounds_toArray, List.set_cons_zero, List.set_cons_succ]
                refine h_take 16 (.slice none 0 0) rfl 59 rfl (by kernel_rfl) (by kernel_rfl) (by kernel_rfl) (by kernel_rfl) (fun _ _ _ h => h) (fun w' _ => by kernel_rfl) ⟨A_16, B_16, trivial⟩ ?_
                simp only [Act.put, List.setIfInBounds_toArray, List.set_cons_zero, List.set_cons_succ]
                refine h_take 17 (.bool false) rfl 60 rfl (by kernel_rfl) (by kernel_rfl) (by kernel_rfl) (by kernel_rfl) (fun _ _ _ h => h) (fun w' _ => by kernel_rfl) ⟨A_16, B_16, trivial⟩ ?_
                simp only [Act.put, List.setIfInBounds_toArray, List.set_cons_zero, List.set_cons_succ]
                refine h_take 18 (.slice none 0 0) rfl 10 rfl (by kernel_rfl) (by kernel_rfl) (by kernel_rfl) (by kernel_rfl) (fun _ _ _ h => h) (fun w' _ => by kernel_rfl) ⟨A_16, B_16, trivial⟩ ?_
                simp only [Act.put, List.setIfInBounds_toArray, List.set_cons_zero, List.set_cons_succ]
                refine h_take 19 (.slice none 0 0) rfl 11 rfl (by kernel_rfl) (by kernel_rfl) (by kernel_rfl) (by kernel_rfl) (fun _ _ _ h => h) (fun w' _ => by kernel_rfl) ⟨A_16, B_16, trivial⟩ ?_
                simp only [Act.put, List.setIfInBounds_toArray, List.set_cons_zero, List.set_cons_succ]
                refine h_take 20 (.bool false) rfl 12 rfl (by kernel_rfl) (by kernel_rfl) (by kernel_rfl) (by kernel_rfl) (fun _ _ _ h => h) (fun w' _ => by kernel_rfl) ⟨A_16, B_16, trivial⟩ ?_
                simp only [Act.put, List.setIfInBounds_toArray, List.set_cons_zero, List.set_cons_succ]
                refine wpAnyH_done (by kernel_rfl) ?_ _
                go_wp2_with (first
                  | ((with_reducible refine at_slot 63 ?_); (refine arm_want (.bool false) 63 rfl (by kernel_rfl) (run_op_neqBB _ _ _ rfl false false rfl rfl false rfl _) ?_); try simp only [Act.put, List.setIfInBounds_toArray, List.set_cons_zero, List.set_cons_succ]))
                refine (CS0.out _).mono ?_
                rintro e y17 ⟨rfl, hB⟩
                have A_18 : Row y17 A 60 (clc a L) := A_16.old hB
                have B_18 : Row y17 B 60 (clc b M) := B_16.old hB
                have bel_18 : Below w.heap.size w y17 := below_step bel_16 bel_16.size hB
                clear A_16 B_16 bel_16 hB
                go_wp2_with fail
                refine (CS0.out _).mono ?_
                rintro e y19 ⟨rfl, hB⟩
                have A_20 : Row y19 A 60 (clc a L) := A_18.old hB
                have B_20 : Row y19 B 60 (clc b M) := B_18.old hB
                have bel_20 : Below w.heap.size w y19 := below_step bel_18 bel_18.size hB
                clear A_18 B_18 bel_18 hB
                go_wp2_with (first
                  | ((with_reducible refine at_slot 91 ?_); (refine arm_load (o := ⟨some 91, _, _, _, _, _⟩) rfl _ _ rfl A 0 rfl (acs a) ((c_a a L).range A_20) KA.out ?_); try simp only [Act.put, List.setIfInBounds_toArray, List.set_cons_zero, List.set_cons_succ]))
                refine (CHA.out _ (HKW.out _ bel_20)).mono ?_
                rintro e y21 ⟨rfl, hB⟩
                have A_22 : Row y21 A 60 (clc a L) := A_20.old hB
                have B_22 : Row y21 B 60 (clc b M) := B_20.old hB
                have bel_22 : Below w.heap.size w y21 := below_step bel_20 bel_20.size hB
                clear A_20 B_20 bel_20 hB
                go_wp2_with (first
                  | ((with_reducible refine at_slot 13 ?_); (refine arm_alloc (o := ⟨some 13, _, _, _, _, _⟩) rfl _ rfl (u8s zh) zH ?_); intro D v23a De hDa nD; try simp only [Act.put, List.setIfInBounds_toArray, List.set_cons_zero, List.set_cons_succ])
                  | ((with_reducible refine arm_store (o := ⟨none, _, _, _, _, _⟩) rfl _ _ _ rfl D 0 rfl (u8s da) rfl _ _ hDa (fitH KD.out) (u8s_one _) (szH KD.out) ?_); intro v23 hDb oD sD; try simp only [Act.put, List.setIfInBounds_toArray, List.set_cons_zero, List.set_cons_succ])
                  | ((with_reducible refine at_slot 97 ?_); (refine arm_load (o := ⟨some 97, _, _, _, _, _⟩) rfl _ _ rfl B 0 rfl (acs b) ((c_a b M).range ((B_22.old nD.below).only oD (by have := De.out; have := B_22.lt; omega))) KB.out ?_); try simp only [Act.put, List.setIfInBounds_toArray, List.set_cons_zero, List.set_cons_succ]))
                have lD : y21.heap.size ≤ D := by have := De.out; omega
                have bD : Below y21.heap.size y21 v23 := below_only nD.below oD lD nD.below.size
                have rrD : Row v23 D 23 (u8s da) := hDb.congr (allH KD.out)
                have geD : w.heap.size ≤ D := Nat.le_trans bel_22.size lD
                clear hDa hDb nD oD sD De lD
                have A_24 : Row v23 A 60 (clc a L) := A_22.old bD
                have B_24 : Row v23 B 60 (clc b M) := B_22.old bD
                have bel_24 : Below w.heap.size w v23 := below_step bel_22 bel_22.size bD
                clear A_22 B_22 bel_22 bD
                refine (CHB.out _ (HKW.out _ bel_24)).mono ?_
                rintro e y25 ⟨rfl, hB⟩
                have A_26 : Row y25 A 60 (clc a L) := A_24.old hB
                have B_26 : Row y25 B 60 (clc b M) := B_24.old hB
                have D_26 : Row y25 D 23 (u8s da) := rrD.old hB
                have bel_26 : Below w.heap.size w y25 := below_step bel_24 bel_24.size hB
                clear A_24 B_24 rrD bel_24 hB
                go_wp2_with (first
                  | ((with_reducible refine at_slot 15 ?_); (refine arm_alloc (o := ⟨some 15, _, _, _, _, _⟩) rfl _ rfl (u8s zh) zH ?_); intro E v27a Ee hEa nE; try simp only [Act.put, List.setIfInBounds_toArray, List.set_cons_zero, List.set_cons_succ])
                  | ((with_reducible refine arm_store (o := ⟨none, _, _, _, _, _⟩) rfl _ _ _ rfl E 0 rfl (u8s db) rfl _ _ hEa (fitH KE.out) (u8s_one _) (szH KE.out) ?_); intro v27 hEb oE sE; try simp only [Act.put, List.setIfInBounds_toArray, List.set_cons_zero, List.set_cons_succ])
                  | ((with_reducible refine at_slot 102 ?_); (refine arm_want (.bool false) 102 rfl (by kernel_rfl) (cmp_neq _ _ .i64 (by kernel_rfl) _ _ rfl .i64 (0) (0) rfl rfl false (by decide) _) ?_); try simp only [Act.put, List.setIfInBounds_toArray, List.set_cons_zero, List.set_cons_succ])
                  | ((with_reducible refine at_slot 105 ?_); (refine arm_want (.bool false) 105 rfl (by kernel_rfl) (cmp_neq _ _ .i64 (by kernel_rfl) _ _ rfl .i64 (0) (0) rfl rfl false (by decide) _) ?_); try simp only [Act.put, List.setIfInBounds_toArray, List.set_cons_zero, List.set_cons_succ])
                  | ((with_reducible refine at_slot 111 ?_); (refine arm_load (o := ⟨some 111, _, _, _, _, _⟩) rfl _ _ rfl D 0 rfl (u8s da) ((Has.refl _).range ((D_26.old nE.below).only oE (by have := Ee.out; have := D_26.lt; omega))) (szH KD.out) ?_); try simp only [Act.put, List.setIfInBounds_toArray, List.set_cons_zero, List.set_cons_succ])
                  | ((with_reducible refine at_slot 113 ?_); (refine arm_load (o := ⟨some 113, _, _, _, _, _⟩) rfl _ _ rfl A 3 rfl (dgC L) ((c_p a L).range ((A_26.old nE.below).only oE (by have := Ee.out; have := A_26.lt; omega))) SPL.out ?_); try simp only [Act.put, List.setIfInBounds_toArray, List.set_cons_zero, List.set_cons_succ]))
                have lE : y25.heap.size ≤ E := by have := Ee.out; omega
                have bE : Below y25.heap.size y25 v27 := below_only nE.below oE lE nE.below.size
                have rrE : Row v27 E 23 (u8s db) := hEb.congr (allH KE.out)
                have geE : w.heap.size ≤ E := Nat.le_trans bel_26.size lE
                clear hEa hEb nE oE sE Ee lE
                have A_28 : Row v27 A 60 (clc a L) := A_26.old bE
                have B_28 : Row v27 B 60 (clc b M) := B_26.old bE
                have D_28 : Row v27 D 23 (u8s da) := D_26.old bE
                have bel_28 : Below w.heap.size w v27 := below_step bel_26 bel_26.size bE
                clear A_26 B_26 D_26 bel_26 bE
                refine (CLA.out _ (HKW.out _ bel_28)).mono ?_
                rintro e y29 ⟨rfl, hB⟩
                have A_30 : Row y29 A 60 (clc a L) := A_28.old hB
                have B_30 : Row y29 B 60 (clc b M) := B_28.old hB
                have D_30 : Row y29 D 23 (u8s da) := D_28.old hB
                have E_30 : Row y29 E 23 (u8s db) := rrE.old hB
                have bel_30 : Below w.heap.size w y29 := below_step bel_28 bel_28.size hB
                clear A_28 B_28 D_28 rrE bel_28 hB
                go_wp2_with (first
                  | ((with_reducible refine at_slot 17 ?_); (refine arm_alloc (o := ⟨some 17, _, _, _, _, _⟩) rfl _ rfl (u8s zh) zH ?_); intro F v31a Fe hFa nF; try simp only [Act.put, List.setIfInBounds_toArray, List.set_cons_zero, List.set_cons_succ])
                  | ((with_reducible refine arm_store (o := ⟨none, _, _, _, _, _⟩) rfl _ _ _ rfl F 0 rfl (u8s u) rfl _ _ hFa (fitH KU.out) (u8s_one _) (szH KU.out) ?_); intro v31 hFb oF sF; try simp only [Act.put, List.setIfInBounds_toArray, List.set_cons_zero, List.set_cons_succ])
                  | ((with_reducible refine at_slot 119 ?_); (refine arm_load (o := ⟨some 119, _, _, _, _, _⟩) rfl _ _ rfl E 0 rfl (u8s db) ((Has.refl _).range ((E_30.old nF.below).only oF (by have := Fe.out; have := E_30.lt; omega))) (szH KE.out) ?_); try simp only [Act.put, List.setIfInBounds_toArray, List.set_cons_zero, List.set_cons_succ])
                  | ((with_reducible refine at_slot 121 ?_); (refine arm_load (o := ⟨some 121, _, _, _, _, _⟩) rfl _ _ rfl B 3 rfl (dgC M) ((c_p b M).range ((B_30.old nF.below).only oF (by have := Fe.out; have := B_30.lt; omega))) SPM.out ?_); try simp only [Act.put, List.setIfInBounds_toArray, List.set_cons_zero, List.set_cons_succ]))
                have lF : y29.heap.size ≤ F := by have := Fe.out; omega
                have bF : Below y29.heap.size y29 v31 := below_only nF.below oF lF nF.below.size
                have rrF : Row v31 F 23 (u8s u) := hFb.congr (allH KU.out)
                have geF : w.heap.size ≤ F := Nat.le_trans bel_30.size lF
                clear hFa hFb nF oF sF Fe lF
                have A_32 : Row v31 A 60 (clc a L) := A_30.old bF
                have B_32 : Row v31 B 60 (clc b M) := B_30.old bF
                have D_32 : Row v31 D 23 (u8s da) := D_30.old bF
                have E_32 : Row v31 E 23 (u8s db) := E_30.old bF
                have bel_32 : Below w.heap.size w v31 := below_step bel_30 bel_30.size bF
                clear A_30 B_30 D_30 E_30 bel_30 bF
                refine (CLB.out _ (HKW.out _ bel_32)).mono ?_
                rintro e y33 ⟨rfl, hB⟩
                have A_34 : Row y33 A 60 (clc a L) := A_32.old hB
                have B_34 : Row y33 B 60 (clc b M) := B_32.old hB
                have D_34 : Row y33 D 23 (u8s da) := D_32.old hB
                have E_34 : Row y33 E 23 (u8s db) := E_32.old hB
                have F_34 : Row y33 F 23 (u8s u) := rrF.old hB
                have bel_34 : Below w.heap.size w y33 := below_step bel_32 bel_32.size hB
                clear A_32 B_32 D_32 E_32 rrF bel_32 hB
                go_wp2_with (first
                  | ((with_reducible refine at_slot 19 ?_); (refine arm_alloc (o := ⟨some 19, _, _, _, _, _⟩) rfl _ rfl (u8s zh) zH ?_); intro G v35a Ge hGa nG; try simp only [Act.put, List.setIfInBounds_toArray, List.set_cons_zero, List.set_cons_succ])
                  | ((with_reducible refine arm_store (o := ⟨none, _, _, _, _, _⟩) rfl _ _ _ rfl G 0 rfl (u8s v) rfl _ _ hGa (fitH KV.out) (u8s_one _) (szH KV.out) ?_); intro v35 hGb oG sG; try simp only [Act.put, List.setIfInBounds_toArray, List.set_cons_zero, List.set_cons_succ])
                  | ((with_reducible refine at_slot 127 ?_); (refine arm_want (.bool true) 127 rfl (by kernel_rfl) (cmp_eql _ _ .i64 (by kernel_rfl) _ _ rfl .i64 (0) (0) rfl rfl true (by decide) _) ?_); try simp only [Act.put, List.setIfInBounds_toArray, List.set_cons_zero, List.set_cons_succ])
                  | ((with_reducible refine at_slot 130 ?_); (refine arm_want (.bool true) 130 rfl (by kernel_rfl) (cmp_eql _ _ .i64 (by kernel_rfl) _ _ rfl .i64 (0) (0) rfl rfl true (by decide) _) ?_); try simp only [Act.put, List.setIfInBounds_toArray, List.set_cons_zero, List.set_cons_succ])
                  | ((with_reducible refine at_slot 133 ?_); (refine arm_want (.agg (u8s u).toArray) 133 rfl (by kernel_rfl) (run_op_load _ _ rfl F 0 rfl (u8s u) ((Has.refl _).range ((F_34.old nG.below).only oG (by have := Ge.out; have := F_34.lt; omega))) (szH KU.out)) ?_); try simp only [Act.put, List.setIfInBounds_toArray, List.set_cons_zero, List.set_cons_succ])
                  | ((with_reducible refine at_slot 134 ?_); (refine arm_want (.agg (u8s v).toArray) 134 rfl (by kernel_rfl) (run_op_load _ _ rfl G 0 rfl (u8s v) ((Has.refl _).range (hGb.congr (allH KV.out))) (szH KV.out)) ?_); try simp only [Act.put, List.setIfInBounds_toArray, List.set_cons_zero, List.set_cons_succ])
                  | ((with_reducible refine at_slot 135 ?_); (refine arm_want (.bool false) 135 rfl (by kernel_rfl) (run_op_eqlD KU.out KV.out _ _ _ rfl rfl rfl false (iff_of_false Bool.false_ne_true HUV.out) _) ?_); try simp only [Act.put, List.setIfInBounds_toArray, List.set_cons_zero, List.set_cons_succ])
                  | ((with_reducible refine at_slot 144 ?_); (refine arm_want (.bool true) 144 rfl (by kernel_rfl) (run_op_eqlBB _ _ _ rfl false false rfl rfl true rfl _) ?_); try simp only [Act.put, List.setIfInBounds_toArray, List.set_cons_zero, List.set_cons_succ]))
                have lG : y33.heap.size ≤ G := by have := Ge.out; omega
                have bG : Below y33.heap.size y33 v35 := below_only nG.below oG lG nG.below.size
                have rrG : Row v35 G 23 (u8s v) := hGb.congr (allH KV.out)
                have geG : w.heap.size ≤ G := Nat.le_trans bel_34.size lG
                clear hGa hGb nG oG sG Ge lG
                have A_36 : Row v35 A 60 (clc a L) := A_34.old bG
                have B_36 : Row v35 B 60 (clc b M) := B_34.old bG
                have D_36 : Row v35 D 23 (u8s da) := D_34.old bG
                have E_36 : Row v35 E 23 (u8s db) := E_34.old bG
                have F_36 : Row v35 F 23 (u8s u) := F_34.old bG
                have bel_36 : Below w.heap.size w v35 := below_step bel_34 bel_34.size bG
                clear A_34 B_34 D_34 E_34 F_34 bel_34 bG
                go_ret
                exact ⟨rfl, bel_36⟩
            · obtain ⟨u, hu⟩ : ∃ d, d = zh := ⟨_, rfl⟩
              obtain ⟨v, hv⟩ : ∃ d, d = zh := ⟨_, rfl⟩
              have KU : Hid (H32 u) := Lib.hid (hu ▸ zh_ok)
              have KV : Hid (H32 v) := Lib.hid (hv ▸ zh_ok)
              have CLA : Hid (∀ w0, w0.rangeAt 1 0 (u32s ks) → Calls Tryd.prog 8 #[.int .i64 p, .agg (u8s (digA a)).toArray, .agg (dgC L).toArray] w0 fun e w' => e = .returned (.tuple #[.agg (u8s u).toArray, .int .i64 1]) ∧ Below w0.heap.size w0 w') := Lib.hid fun w0 h => (lead_any p L (digA a) w0 H4.out (digA_ok a) h).mono fun e w' h => ⟨by rw [h.ret, leadI_out hp, pathE_out hp, hu]; rfl, h.bel⟩
              have CLB : Hid (∀ w0, w0.rangeAt 1 0 (u32s ks) → Calls Tryd.prog 8 #[.int .i64 p, .agg (u8s (digA b)).toArray, .agg (dgC M).toArray] w0 fun e w' => e = .returned (.tuple #[.agg (u8s v).toArray, .int .i64 1]) ∧ Below w0.heap.size w0 w') := Lib.hid fun w0 h => (lead_any p M (digA b) w0 G4.out (digA_ok b) h).mono fun e w' h => ⟨by rw [h.ret, leadI_out hp, pathE_out hp, hv]; rfl, h.bel⟩
              clear hu hv hra hrb hp
              generalize digA a = da at *
              generalize digA b = db at *
              go_enter Tryd.func5, Tryd.ntmps5
              go_wp2_with (first
                | ((with_reducible refine at_slot 4 ?_); (refine arm_box (o := ⟨some 4, _, _, _, _, _⟩) rfl _ _ rfl (clc a L) rfl ?_); intro A v1 Ae hv1 nv1; try simp only [Act.put, List.setIfInBounds_toArray, List.set_cons_zero, List.set_cons_succ])
                | ((with_reducible refine at_slot 5 ?_); (refine arm_box (o := ⟨some 5, _, _, _, _, _⟩) rfl _ _ rfl (clc b M) rfl ?_); intro B v2 Be hv2 nv2; try simp only [Act.put, List.setIfInBounds_toArray, List.set_cons_zero, List.set_cons_succ]))
              have hbv1 := nv1.below
              have rrv1 : Row v1 A 60 (clc a L) := hv1
              have hbv2 := nv2.below
              have rrv2 : Row v2 B 60 (clc b M) := hv2
              have geA : w.heap.size ≤ A := by have := Ae.out; omega
              clear hv1 nv1 Ae
              have bel_3 : Below w.heap.size w v1 := hbv1
              clear hbv1
              have geB : w.heap.size ≤ B := by have := Be.out; have := bel_3.size; omega
              have ltAB : A < B := by have := Be.out; have := rrv1.lt; omega
              clear hv2 nv2 Be
              have A_4 : Row v2 A 60 (clc a L) := rrv1.old hbv2
              have bel_4 : Below w.heap.size w v2 := below_step bel_3 bel_3.size hbv2
              clear rrv1 bel_3 hbv2
              refine (CA.out _ (HKW.out _ bel_4)).mono ?_
              rintro e y5 ⟨rfl, hB⟩
              have A_6 : Row y5 A 60 (clc a L) := A_4.old hB
              have B_6 : Row y5 B 60 (clc b M) := rrv2.old hB
              have bel_6 : Below w.heap.size w y5 := below_step bel_4 bel_4.size hB
              clear A_4 rrv2 bel_4 hB
              go_wp2_with (first
                | ((with_reducible refine at_slot 25 ?_); (refine arm_want (.string a.nm) 25 rfl (by kernel_rfl) (run_op_load1 _ _ rfl (.string) (by kernel_rfl) rfl ⟨A, 0, none⟩ rfl (.string a.nm) (A_6.cell HNA.out)) ?_); try simp only [Act.put, List.setIfInBounds_toArray, List.set_cons_zero, List.set_cons_succ])
                | ((with_reducible refine at_slot 31 ?_); (refine arm_want (.string b.nm) 31 rfl (by kernel_rfl) (run_op_load1 _ _ rfl (.string) (by kernel_rfl) rfl ⟨B, 0, none⟩ rfl (.string b.nm) (B_6.cell HNB.out)) ?_); try simp only [Act.put, List.setIfInBounds_toArray, List.set_cons_zero, List.set_cons_succ])
                | ((with_reducible refine at_slot 37 ?_); (refine arm_load (o := ⟨some 37, _, _, _, _, _⟩) rfl _ _ rfl A 0 rfl (clc a L) ((Has.refl _).range A_6) SA.out ?_); try simp only [Act.put, List.setIfInBounds_toArray, List.set_cons_zero, List.set_cons_succ])
                | ((with_reducible refine at_slot 38 ?_); (refine arm_load (o := ⟨some 38, _, _, _, _, _⟩) rfl _ _ rfl B 0 rfl (clc b M) ((Has.refl _).range B_6) SB.out ?_); try simp only [Act.put, List.setIfInBounds_toArray, List.set_cons_zero, List.set_cons_succ]))
              refine (CX.out _ (HKW.out _ bel_6)).mono ?_
              rintro e y7 ⟨rfl, hB⟩
              have A_8 : Row y7 A 60 (clc a L) := A_6.old hB
              have B_8 : Row y7 B 60 (clc b M) := B_6.old hB
              have bel_8 : Below w.heap.size w y7 := below_step bel_6 bel_6.size hB
              clear A_6 B_6 bel_6 hB
              go_wp2_with fail
              refine wp_region_held (S := fun w' => Row w' A 60 (clc a L) ∧ Row w' B 60 (clc b M) ∧ True) (by kernel_rfl) ?_
              change wpAnyH _ _ _ _ _ _ _ _ y7.drew
              have hd9 : Below y7.heap.size y7 y7.drew := (Below.refl _ _).drew
              have A_10 : Row y7.drew A 60 (clc a L) := A_8.old hd9
              have B_10 : Row y7.drew B 60 (clc b M) := B_8.old hd9
              have bel_10 : Below w.heap.size w y7.drew := below_step bel_8 bel_8.size hd9
              clear A_8 B_8 bel_8 hd9
              generalize y7.drew = yz9 at A_10 B_10 bel_10 ⊢
              refine h_take 0 (.int .i64 p) rfl 44 rfl (by kernel_rfl) (by kernel_rfl) (by kernel_rfl) (by kernel_rfl) (fun _ _ _ h => h) (fun w' _ => by kernel_rfl) ⟨A_10, B_10, trivial⟩ ?_
              simp only [Act.put, List.setIfInBounds_toArray, List.set_cons_zero, List.set_cons_succ]
              refine h_take 1 (.pointer (some ⟨A, 0, none⟩)) rfl 45 rfl (by kernel_rfl) (by kernel_rfl) (by kernel_rfl) (by kernel_rfl) (fun _ _ _ h => h) (fun w' _ => by kernel_rfl) ⟨A_10, B_10, trivial⟩ ?_
              simp only [Act.put, List.setIfInBounds_toArray, List.set_cons_zero, List.set_cons_succ]
              refine h_take 2 (.agg (acs a).toArray) rfl 46 rfl (by kernel_rfl) (by kernel_rfl) (by kernel_rfl) (by kernel_rfl) (fun _ _ _ h => h) (fun w' hw => run_op_load _ _ rfl A (0) rfl (acs a) (((c_a a L)).range hw.1) (KA.out)) ⟨A_10, B_10, trivial⟩ ?_
              simp only [Act.put, List.setIfInBounds_toArray, List.set_cons_zero, List.set_cons_succ]
              refine h_take 4 (.pointer (some ⟨A, 3, none⟩)) rfl 48 rfl (by kernel_rfl) (by kernel_rfl) (by kernel_rfl) (by kernel_rfl) (fun _ _ _ h => h) (fun w' _ => by kernel_rfl) ⟨A_10, B_10, trivial⟩ ?_
              simp only [Act.put, List.setIfInBounds_toArray, List.set_cons_zero, List.set_cons_succ]
              refine h_take 5 (.agg (dgC L).toArray) rfl 49 rfl (by kernel_rfl) (by kernel_rfl) (by kernel_rfl) (by kernel_rfl) (fun _ _ _ h => h) (fun w' hw => run_op_load _ _ rfl A (3) rfl (dgC L) (((c_p a L)).range hw.1) (SPL.out)) ⟨A_10, B_10, trivial⟩ ?_
              simp only [Act.put, List.setIfInBounds_toArray, List.set_cons_zero, List.set_cons_succ]
              refine h_take 7 (.pointer (some ⟨B, 0, none⟩)) rfl 51 rfl (by kernel_rfl) (by kernel_rfl) (by kernel_rfl) (by kernel_rfl) (fun _ _ _ h => h) (fun w' _ => by kernel_rfl) ⟨A_10, B_10, trivial⟩ ?_
              simp only [Act.put, List.setIfInBounds_toArray, List.set_cons_zero, List.set_cons_succ]
              refine h_take 8 (.agg (acs b).toArray) rfl 52 rfl (by kernel_rfl) (by kernel_rfl) (by kernel_rfl) (by kernel_rfl) (fun _ _ _ h => h) (fun w' hw => run_op_load _ _ rfl B (0) rfl (acs b) (((c_a b M)).range hw.2.1) (KB.out)) ⟨A_10, B_10, trivial⟩ ?_
              simp only [Act.put, List.setIfInBounds_toArray, List.set_cons_zero, List.set_cons_succ]
              refine h_take 10 (.pointer (some ⟨B, 3, none⟩)) rfl 54 rfl (by kernel_rfl) (by kernel_rfl) (by kernel_rfl) (by kernel_rfl) (fun _ _ _ h => h) (fun w' _ => by kernel_rfl) ⟨A_10, B_10, trivial⟩ ?_
              simp only [Act.put, List.setIfInBounds_toArray, List.set_cons_zero, List.set_cons_succ]
              refine h_take 11 (.agg (dgC M).toArray) rfl 55 rfl (by kernel_rfl) (by kernel_rfl) (by kernel_rfl) (by kernel_rfl) (fun _ _ _ h => h) (fun w' hw => run_op_load _ _ rfl B (3) rfl (dgC M) (((c_p b M)).range hw.2.1) (SPM.out)) ⟨A_10, B_10, trivial⟩ ?_
              simp only [Act.put, List.setIfInBounds_toArray, List.set_cons_zero, List.set_cons_succ]
              refine h_one (i := 3) (by kernel_rfl) (o_call rfl 47 rfl (by kernel_rfl) (run_op_call 17 _ _ rfl #[.agg (acs a).toArray] (by simp only [List.map_toArray, List.map_cons, List.map_nil]; rfl) Tryd.func17 (by kernel_rfl) (by kernel_rfl) _) (COA.out _) ?_)
              rintro e y11 ⟨rfl, hB⟩
              have A_12 : Row y11 A 60 (clc a L) := A_10.old hB
              have B_12 : Row y11 B 60 (clc b M) := B_10.old hB
              have bel_12 : Below w.heap.size w y11 := below_step bel_10 bel_10.size hB
              clear A_10 B_10 bel_10 hB
              refine ⟨_, rfl, ⟨A_12, B_12, trivial⟩, ?_⟩
              simp only [Act.put, List.setIfInBounds_toArray, List.set_cons_zero, List.set_cons_succ]
              refine h_take 6 (.agg (clc a L).toArray) rfl 50 rfl (by kernel_rfl) (by kernel_rfl) (by kernel_rfl) (by kernel_rfl) (fun _ _ _ h => h) (fun w' _ => run_op_build _ _ rfl _ (by simp only [List.map_toArray, List.map_cons, List.map_nil]; exact BA.out) w') ⟨A_12, B_12, trivial⟩ ?_
              simp only [Act.put, List.setIfInBounds_toArray, List.set_cons_zero, List.set_cons_succ]
              refine h_one (i := 9) (by kernel_rfl) (o_call rfl 53 rfl (by kernel_rfl) (run_op_call 17 _ _ rfl #[.agg (acs b).toArray] (by simp only [List.map_toArray, List.map_cons, List.map_nil]; rfl) Tryd.func17 (by kernel_rfl) (by kernel_rfl) _) (COB.out _) ?_)
              rintro e y13 ⟨rfl, hB⟩
              have A_14 : Row y13 A 60 (clc a L) := A_12.old hB
              have B_14 : Row y13 B 60 (clc b M) := B_12.old hB
              have bel_14 : Below w.heap.size w y13 := below_step bel_12 bel_12.size hB
              clear A_12 B_12 bel_12 hB
              refine ⟨_, rfl, ⟨A_14, B_14, trivial⟩, ?_⟩
              simp only [Act.put, List.setIfInBounds_toArray, List.set_cons_zero, List.set_cons_succ]
              refine h_take 12 (.agg (clc b M).toArray) rfl 56 rfl (by kernel_rfl) (by kernel_rfl) (by kernel_rfl) (by kernel_rfl) (fun _ _ _ h => h) (fun w' _ => run_op_build _ _ rfl _ (by simp only [List.map_toArray, List.map_cons, List.map_nil]; exact BB.out) w') ⟨A_14, B_14, trivial⟩ ?_
              simp only [Act.put, List.setIfInBounds_toArray, List.set_cons_zero, List.set_cons_succ]
              refine h_one (i := 13) (by kernel_rfl) (o_call rfl 57 rfl (by kernel_rfl) (run_op_call 25 _ _ rfl #[.int .i64 p, .agg (clc a L).toArray, .agg (clc b M).toArray] (by simp only [List.map_toArray, List.map_cons, List.map_nil]; rfl) Tryd.func25 (by kernel_rfl) (by kernel_rfl) _) (CRX.out _ (HKW2.out _ bel_14)) ?_)
              rintro e y15 ⟨rfl, hB⟩
              have A_16 : Row y15 A 60 (clc a L) := A_14.old hB
              have B_16 : Row y15 B 60 (clc b M) := B_14.old hB
              have bel_16 : Below w.heap.size w y15 := below_step bel_14 bel_14.size hB
              clear A_14 B_14 bel_14 hB
              refine ⟨_, rfl, ⟨A_16, B_16, trivial⟩, ?_⟩
              simp only [Act.put, List.setIfInBounds_toArray, List.set_cons_zero, List.set_cons_succ]
              refine h_take 14 (.tuple #[.slice none 0 0, .slice none 0 0, .bool false]) rfl 43 rfl (by kernel_rfl) (by kernel_rfl) (by kernel_rfl) (by kernel_rfl) (fun _ _ _ h => h) (fun w' _ => by kernel_rfl) ⟨A_16, B_16, trivial⟩ ?_
              simp only [Act.put, List.setIfInBounds_toArray, List.set_cons_zero, List.set_cons_succ]
              refine h_take 15 (.slice none 0 0) rfl 58 rfl (by kernel_rfl) (by kernel_rfl) (by kernel_rfl) (by kernel_rfl) (fun _ _ _ h => h) (fun w' _ => by kernel_rfl) ⟨A_16, B_16, trivial⟩ ?_
              simp only [Act.put, List.setIfInBounds_toArray, List.set_cons_zero, List.set_cons_succ]
              refine h_take 16 (.slice none 0 0) rfl 59 rfl (by kernel_rfl) (by kernel_rfl) (by kernel_rfl) (by kernel_rfl) (fun _ _ _ h => h) (fun w' _ => by kernel_rfl) ⟨A_16, B_16, trivial⟩ ?_
              simp only [Act.put, List.setIfInBounds_toArray, List.set_cons_zero, List.set_cons_succ]
              refine h_take 17 (.bool false) rfl 60 rfl (by kernel_rfl) (by kernel_rfl) (by kernel_rfl) (by kernel_rfl) (fun _ _ _ h => h) (fun w' _ => by kernel_rfl) ⟨A_16, B_16, trivial⟩ ?_
              simp only [Act.put, List.setIfInBounds_toArray, List.set_cons_zero, List.set_cons_succ]
              refine h_take 18 (.slice none 0 0) rfl 10 rfl (by kernel_rfl) (by kernel_rfl) (by kernel_rfl) (by kernel_rfl) (fun _ _ _ h => h) (fun w' _ => by kernel_rfl) ⟨A_16, B_16, trivial⟩ ?_
              simp only [Act.put, List.setIfInBounds_toArray, List.set_cons_zero, List.set_cons_succ]
              refine h_take 19 (.slice none 0 0) rfl 11 rfl (by kernel_rfl) (by kernel_rfl) (by kernel_rfl) (by kernel_rfl) (fun _ _ _ h => h) (fun w' _ => by kernel_rfl) ⟨A_16, B_16, trivial⟩ ?_
              simp only [Act.put, List.setIfInBounds_toArray, List.set_cons_zero, List.set_cons_succ]
              refine h_take 20 (.bool false) rfl 12 rfl (by kernel_rfl) (by kernel_rfl) (by kernel_rfl) (by kernel_rfl) (fun _ _ _ h => h) (fun w' _ => by kernel_rfl) ⟨A_16, B_16, trivial⟩ ?_
              simp only [Act.put, List.setIfInBounds_toArray, List.set_cons_zero, List.set_cons_succ]
              refine wpAnyH_done (by kernel_rfl) ?_ _
              go_wp2_with (first
                | ((with_reducible refine at_slot 63 ?_); (refine arm_want (.bool false) 63 rfl (by kernel_rfl) (run_op_neqBB _ _ _ rfl false false rfl rfl false rfl _) ?_); try simp only [Act.put, List.setIfInBounds_toArray, List.set_cons_zero, List.set_cons_succ]))
              refine (CS0.out _).mono ?_
              rintro e y17 ⟨rfl, hB⟩
              have A_18 : Row y17 A 60 (clc a L) := A_16.old hB
              have B_18 : Row y17 B 60 (clc b M) := B_16.old hB
              have bel_18 : Below w.heap.size w y17 := below_step bel_16 bel_16.size hB
              clear A_16 B_16 bel_16 hB
              go_wp2_with fail
              refine (CS0.out _).mono ?_
              rintro e y19 ⟨rfl, hB⟩
              have A_20 : Row y19 A 60 (clc a L) := A_18.old hB
              have B_20 : Row y19 B 60 (clc b M) := B_18.old hB
              have bel_20 : Below w.heap.size w y19 := below_step bel_18 bel_18.size hB
              clear A_18 B_18 bel_18 hB
              go_wp2_with (first
                | ((with_reducible refine at_slot 91 ?_); (refine arm_load (o := ⟨some 91, _, _, _, _, _⟩) rfl _ _ rfl A 0 rfl (acs a) ((c_a a L).range A_20) KA.out ?_); try simp only [Act.put, List.setIfInBounds_toArray, List.set_cons_zero, List.set_cons_succ]))
              refine (CHA.out _ (HKW.out _ bel_20)).mono ?_
              rintro e y21 ⟨rfl, hB⟩
              have A_22 : Row y21 A 60 (clc a L) := A_20.old hB
              have B_22 : Row y21 B 60 (clc b M) := B_20.old hB
              have bel_22 : Below w.heap.size w y21 := below_step bel_20 bel_20.size hB
              clear A_20 B_20 bel_20 hB
              go_wp2_with (first
                | ((with_reducible refine at_slot 13 ?_); (refine arm_alloc (o := ⟨some 13, _, _, _, _, _⟩) rfl _ rfl (u8s zh) zH ?_); intro D v23a De hDa nD; try simp only [Act.put, List.setIfInBounds_toArray, List.set_cons_zero, List.set_cons_succ])
                | ((with_reducible refine arm_store (o := ⟨none, _, _, _, _, _⟩) rfl _ _ _ rfl D 0 rfl (u8s da) rfl _ _ hDa (fitH KD.out) (u8s_one _) (szH KD.out) ?_); intro v23 hDb oD sD; try simp only [Act.put, List.setIfInBounds_toArray, List.set_cons_zero, List.set_cons_succ])
                | ((with_reducible refine at_slot 97 ?_); (refine arm_load (o := ⟨some 97, _, _, _, _, _⟩) rfl _ _ rfl B 0 rfl (acs b) ((c_a b M).range ((B_22.old nD.below).only oD (by have := De.out; have := B_22.lt; omega))) KB.out ?_); try simp only [Act.put, List.setIfInBounds_toArray, List.set_cons_zero, List.set_cons_succ]))
              have lD : y21.heap.size ≤ D := by have := De.out; omega
              have bD : Below y21.heap.size y21 v23 := below_only nD.below oD lD nD.below.size
              have rrD : Row v23 D 23 (u8s da) := hDb.congr (allH KD.out)
              have geD : w.heap.size ≤ D := Nat.le_trans bel_22.size lD
              clear hDa hDb nD oD sD De lD
              have A_24 : Row v23 A 60 (clc a L) := A_22.old bD
              have B_24 : Row v23 B 60 (clc b M) := B_22.old bD
              have bel_24 : Below w.heap.size w v23 := below_step bel_22 bel_22.size bD
              clear A_22 B_22 bel_22 bD
              refine (CHB.out _ (HKW.out _ bel_24)).mono ?_
              rintro e y25 ⟨rfl, hB⟩
              have A_26 : Row y25 A 60 (clc a L) := A_24.old hB
              have B_26 : Row y25 B 60 (clc b M) := B_24.old hB
              have D_26 : Row y25 D 23 (u8s da) := rrD.old hB
              have bel_26 : Below w.heap.size w y25 := below_step bel_24 bel_24.size hB
              clear A_24 B_24 rrD bel_24 hB
              go_wp2_with (first
                | ((with_reducible refine at_slot 15 ?_); (refine arm_alloc (o := ⟨some 15, _, _, _, _, _⟩) rfl _ rfl (u8s zh) zH ?_); intro E v27a Ee hEa nE; try simp only [Act.put, List.setIfInBounds_toArray, List.set_cons_zero, List.set_cons_succ])
                | ((with_reducible refine arm_store (o := ⟨none, _, _, _, _, _⟩) rfl _ _ _ rfl E 0 rfl (u8s db) rfl _ _ hEa (fitH KE.out) (u8s_one _) (szH KE.out) ?_); intro v27 hEb oE sE; try simp only [Act.put, List.setIfInBounds_toArray, List.set_cons_zero, List.set_cons_succ])
                | ((with_reducible refine at_slot 102 ?_); (refine arm_want (.bool false) 102 rfl (by kernel_rfl) (cmp_neq _ _ .i64 (by kernel_rfl) _ _ rfl .i64 (0) (0) rfl rfl false (by decide) _) ?_); try simp only [Act.put, List.setIfInBounds_toArray, List.set_cons_zero, List.set_cons_succ])
                | ((with_reducible refine at_slot 105 ?_); (refine arm_want (.bool false) 105 rfl (by kernel_rfl) (cmp_neq _ _ .i64 (by kernel_rfl) _ _ rfl .i64 (0) (0) rfl rfl false (by decide) _) ?_); try simp only [Act.put, List.setIfInBounds_toArray, List.set_cons_zero, List.set_cons_succ])
                | ((with_reducible refine at_slot 111 ?_); (refine arm_load (o := ⟨some 111, _, _, _, _, _⟩) rfl _ _ rfl D 0 rfl (u8s da) ((Has.refl _).range ((D_26.old nE.below).only oE (by have := Ee.out; have := D_26.lt; omega))) (szH KD.out) ?_); try simp only [Act.put, List.setIfInBounds_toArray, List.set_cons_zero, List.set_cons_succ])
                | ((with_reducible refine at_slot 113 ?_); (refine arm_load (o := ⟨some 113, _, _, _, _, _⟩) rfl _ _ rfl A 3 rfl (dgC L) ((c_p a L).range ((A_26.old nE.below).only oE (by have := Ee.out; have := A_26.lt; omega))) SPL.out ?_); try simp only [Act.put, List.setIfInBounds_toArray, List.set_cons_zero, List.set_cons_succ]))
              have lE : y25.heap.size ≤ E := by have := Ee.out; omega
              have bE : Below y25.heap.size y25 v27 := below_only nE.below oE lE nE.below.size
              have rrE : Row v27 E 23 (u8s db) := hEb.congr (allH KE.out)
              have geE : w.heap.size ≤ E := Nat.le_trans bel_26.size lE
              clear hEa hEb nE oE sE Ee lE
              have A_28 : Row v27 A 60 (clc a L) := A_26.old bE
              have B_28 : Row v27 B 60 (clc b M) := B_26.old bE
              have D_28 : Row v27 D 23 (u8s da) := D_26.old bE
              have bel_28 : Below w.heap.size w v27 := below_step bel_26 bel_26.size bE
              clear A_26 B_26 D_26 bel_26 bE
              refine (CLA.out _ (HKW.out _ bel_28)).mono ?_
              rintro e y29 ⟨rfl, hB⟩
              have A_30 : Row y29 A 60 (clc a L) := A_28.old hB
              have B_30 : Row y29 B 60 (clc b M) := B_28.old hB
              have D_30 : Row y29 D 23 (u8s da) := D_28.old hB
              have E_30 : Row y29 E 23 (u8s db) := rrE.old hB
              have bel_30 : Below w.heap.size w y29 := below_step bel_28 bel_28.size hB
              clear A_28 B_28 D_28 rrE bel_28 hB
              go_wp2_with (first
                | ((with_reducible refine at_slot 17 ?_); (refine arm_alloc (o := ⟨some 17, _, _, _, _, _⟩) rfl _ rfl (u8s zh) zH ?_); intro F v31a Fe hFa nF; try simp only [Act.put, List.setIfInBounds_toArray, List.set_cons_zero, List.set_cons_succ])
                | ((with_reducible refine arm_store (o := ⟨none, _, _, _, _, _⟩) rfl _ _ _ rfl F 0 rfl (u8s u) rfl _ _ hFa (fitH KU.out) (u8s_one _) (szH KU.out) ?_); intro v31 hFb oF sF; try simp only [Act.put, List.setIfInBounds_toArray, List.set_cons_zero, List.set_cons_succ])
                | ((with_reducible refine at_slot 119 ?_); (refine arm_load (o := ⟨some 119, _, _, _, _, _⟩) rfl _ _ rfl E 0 rfl (u8s db) ((Has.refl _).range ((E_30.old nF.below).only oF (by have := Fe.out; have := E_30.lt; omega))) (szH KE.out) ?_); try simp only [Act.put, List.setIfInBounds_toArray, List.set_cons_zero, List.set_cons_succ])
                | ((with_reducible refine at_slot 121 ?_); (refine arm_load (o := ⟨some 121, _, _, _, _, _⟩) rfl _ _ rfl B 3 rfl (dgC M) ((c_p b M).range ((B_30.old nF.below).only oF (by have := Fe.out; have := B_30.lt; omega))) SPM.out ?_); try simp only [Act.put, List.setIfInBounds_toArray, List.set_cons_zero, List.set_cons_succ]))
              have lF : y29.heap.size ≤ F := by have := Fe.out; omega
              have bF : Below y29.heap.size y29 v31 := below_only nF.below oF lF nF.below.size
              have rrF : Row v31 F 23 (u8s u) := hFb.congr (allH KU.out)
              have geF : w.heap.size ≤ F := Nat.le_trans bel_30.size lF
              clear hFa hFb nF oF sF Fe lF
              have A_32 : Row v31 A 60 (clc a L) := A_30.old bF
              have B_32 : Row v31 B 60 (clc b M) := B_30.old bF
              have D_32 : Row v31 D 23 (u8s da) := D_30.old bF
              have E_32 : Row v31 E 23 (u8s db) := E_30.old bF
              have bel_32 : Below w.heap.size w v31 := below_step bel_30 bel_30.size bF
              clear A_30 B_30 D_30 E_30 bel_30 bF
              refine (CLB.out _ (HKW.out _ bel_32)).mono ?_
              rintro e y33 ⟨rfl, hB⟩
              have A_34 : Row y33 A 60 (clc a L) := A_32.old hB
              have B_34 : Row y33 B 60 (clc b M) := B_32.old hB
              have D_34 : Row y33 D 23 (u8s da) := D_32.old hB
              have E_34 : Row y33 E 23 (u8s db) := E_32.old hB
              have F_34 : Row y33 F 23 (u8s u) := rrF.old hB
              have bel_34 : Below w.heap.size w y33 := below_step bel_32 bel_32.size hB
              clear A_32 B_32 D_32 E_32 rrF bel_32 hB
              go_wp2_with (first
                | ((with_reducible refine at_slot 19 ?_); (refine arm_alloc (o := ⟨some 19, _, _, _, _, _⟩) rfl _ rfl (u8s zh) zH ?_); intro G v35a Ge hGa nG; try simp only [Act.put, List.setIfInBounds_toArray, List.set_cons_zero, List.set_cons_succ])
                | ((with_reducible refine arm_store (o := ⟨none, _, _, _, _, _⟩) rfl _ _ _ rfl G 0 rfl (u8s v) rfl _ _ hGa (fitH KV.out) (u8s_one _) (szH KV.out) ?_); intro v35 hGb oG sG; try simp only [Act.put, List.setIfInBounds_toArray, List.set_cons_zero, List.set_cons_succ])
                | ((with_reducible refine at_slot 127 ?_); (refine arm_want (.bool false) 127 rfl (by kernel_rfl) (cmp_eql _ _ .i64 (by kernel_rfl) _ _ rfl .i64 (1) (0) rfl rfl false (by decide) _) ?_); try simp only [Act.put, List.setIfInBounds_toArray, List.set_cons_zero, List.set_cons_succ])
                | ((with_reducible refine at_slot 144 ?_); (refine arm_want (.bool true) 144 rfl (by kernel_rfl) (run_op_eqlBB _ _ _ rfl false false rfl rfl true rfl _) ?_); try simp only [Act.put, List.setIfInBounds_toArray, List.set_cons_zero, List.set_cons_succ]))
              have lG : y33.heap.size ≤ G := by have := Ge.out; omega
              have bG : Below y33.heap.size y33 v35 := below_only nG.below oG lG nG.below.size
              have rrG : Row v35 G 23 (u8s v) := hGb.congr (allH KV.out)
              have geG : w.heap.size ≤ G := Nat.le_trans bel_34.size lG
              clear hGa hGb nG oG sG Ge lG
              have A_36 : Row v35 A 60 (clc a L) := A_34.old bG
              have B_36 : Row v35 B 60 (clc b M) := B_34.old bG
              have D_36 : Row v35 D 23 (u8s da) := D_34.old bG
              have E_36 : Row v35 E 23 (u8s db) := E_34.old bG
              have F_36 : Row v35 F 23 (u8s u) := F_34.old bG
              have bel_36 : Below w.heap.size w v35 := below_step bel_34 bel_34.size bG
              clear A_34 B_34 D_34 E_34 F_34 bel_34 bG
              go_ret
              exact ⟨rfl, bel_36⟩
          · have KD := Lib.hid (digA_ok a); have KE := Lib.hid zh_ok
            have CHA : Hid (∀ w0, w0.rangeAt 1 0 (u32s ks) → Calls Tryd.prog 27 #[.agg (acs a).toArray] w0 fun e w' => e = .returned (.tuple #[.agg (u8s (digA a)).toArray, .int .i64 0]) ∧ Below w0.heap.size w0 w') := Lib.hid fun w0 h => (ahash_any a w0 HKA.out h).mono fun e w' h => ⟨by rw [h.ret]; rw [show ansH a = digA a from if_pos hra, show ansE a = 0 from if_pos hra]; rfl, h.bel⟩
            have CHB : Hid (∀ w0, w0.rangeAt 1 0 (u32s ks) → Calls Tryd.prog 27 #[.agg (acs b).toArray] w0 fun e w' => e = .returned (.tuple #[.agg (u8s zh).toArray, .int .i64 1]) ∧ Below w0.heap.size w0 w') := Lib.hid fun w0 h => (ahash_any b w0 HKB.out h).mono fun e w' h => ⟨by rw [h.ret]; rw [show ansH b = zh from if_neg hrb, show ansE b = 1 from if_neg hrb]; rfl, h.bel⟩
            clear hra hrb
            generalize digA a = da at *
            obtain ⟨db, hdb⟩ : ∃ d, d = zh := ⟨_, rfl⟩
            rw [← hdb] at CHB KE
            clear hdb
            go_enter Tryd.func5, Tryd.ntmps5
            go_wp2_with (first
              | ((with_reducible refine at_slot 4 ?_); (refine arm_box (o := ⟨some 4, _, _, _, _, _⟩) rfl _ _ rfl (clc a L) rfl ?_); intro A v1 Ae hv1 nv1; try simp only [Act.put, List.setIfInBounds_toArray, List.set_cons_zero, List.set_cons_succ])
              | ((with_reducible refine at_slot 5 ?_); (refine arm_box (o := ⟨some 5, _, _, _, _, _⟩) rfl _ _ rfl (clc b M) rfl ?_); intro B v2 Be hv2 nv2; try simp only [Act.put, List.setIfInBounds_toArray, List.set_cons_zero, List.set_cons_succ]))
            have hbv1 := nv1.below
            have rrv1 : Row v1 A 60 (clc a L) := hv1
            have hbv2 := nv2.below
            have rrv2 : Row v2 B 60 (clc b M) := hv2
            have geA : w.heap.size ≤ A := by have := Ae.out; omega
            clear hv1 nv1 Ae
            have bel_3 : Below w.heap.size w v1 := hbv1
            clear hbv1
            have geB : w.heap.size ≤ B := by have := Be.out; have := bel_3.size; omega
            have ltAB : A < B := by have := Be.out; have := rrv1.lt; omega
            clear hv2 nv2 Be
            have A_4 : Row v2 A 60 (clc a L) := rrv1.old hbv2
            have bel_4 : Below w.heap.size w v2 := below_step bel_3 bel_3.size hbv2
            clear rrv1 bel_3 hbv2
            refine (CA.out _ (HKW.out _ bel_4)).mono ?_
            rintro e y5 ⟨rfl, hB⟩
            have A_6 : Row y5 A 60 (clc a L) := A_4.old hB
            have B_6 : Row y5 B 60 (clc b M) := rrv2.old hB
            have bel_6 : Below w.heap.size w y5 := below_step bel_4 bel_4.size hB
            clear A_4 rrv2 bel_4 hB
            go_wp2_with (first
              | ((with_reducible refine at_slot 25 ?_); (refine arm_want (.string a.nm) 25 rfl (by kernel_rfl) (run_op_load1 _ _ rfl (.string) (by kernel_rfl) rfl ⟨A, 0, none⟩ rfl (.string a.nm) (A_6.cell HNA.out)) ?_); try simp only [Act.put, List.setIfInBounds_toArray, List.set_cons_zero, List.set_cons_succ])
              | ((with_reducible refine at_slot 31 ?_); (refine arm_want (.string b.nm) 31 rfl (by kernel_rfl) (run_op_load1 _ _ rfl (.string) (by kernel_rfl) rfl ⟨B, 0, none⟩ rfl (.string b.nm) (B_6.cell HNB.out)) ?_); try simp only [Act.put, List.setIfInBounds_toArray, List.set_cons_zero, List.set_cons_succ])
              | ((with_reducible refine at_slot 37 ?_); (refine arm_load (o := ⟨some 37, _, _, _, _, _⟩) rfl _ _ rfl A 0 rfl (clc a L) ((Has.refl _).range A_6) SA.out ?_); try simp only [Act.put, List.setIfInBounds_toArray, List.set_cons_zero, List.set_cons_succ])
              | ((with_reducible refine at_slot 38 ?_); (refine arm_load (o := ⟨some 38, _, _, _, _, _⟩) rfl _ _ rfl B 0 rfl (clc b M) ((Has.refl _).range B_6) SB.out ?_); try simp only [Act.put, List.setIfInBounds_toArray, List.set_cons_zero, List.set_cons_succ]))
            refine (CX.out _ (HKW.out _ bel_6)).mono ?_
            rintro e y7 ⟨rfl, hB⟩
            have A_8 : Row y7 A 60 (clc a L) := A_6.old hB
            have B_8 : Row y7 B 60 (clc b M) := B_6.old hB
            have bel_8 : Below w.heap.size w y7 := below_step bel_6 bel_6.size hB
            clear A_6 B_6 bel_6 hB
            go_wp2_with fail
            refine wp_region_held (S := fun w' => Row w' A 60 (clc a L) ∧ Row w' B 60 (clc b M) ∧ True) (by kernel_rfl) ?_
            change wpAnyH _ _ _ _ _ _ _ _ y7.drew
            have hd9 : Below y7.heap.size y7 y7.drew := (Below.refl _ _).drew
            have A_10 : Row y7.drew A 60 (clc a L) := A_8.old hd9
            have B_10 : Row y7.drew B 60 (clc b M) := B_8.old hd9
            have bel_10 : Below w.heap.size w y7.drew := below_step bel_8 bel_8.size hd9
            clear A_8 B_8 bel_8 hd9
            generalize y7.drew = yz9 at A_10 B_10 bel_10 ⊢
            refine h_take 0 (.int .i64 p) rfl 44 rfl (by kernel_rfl) (by kernel_rfl) (by kernel_rfl) (by kernel_rfl) (fun _ _ _ h => h) (fun w' _ => by kernel_rfl) ⟨A_10, B_10, trivial⟩ ?_
            simp only [Act.put, List.setIfInBounds_toArray, List.set_cons_zero, List.set_cons_succ]
            refine h_take 1 (.pointer (some ⟨A, 0, none⟩)) rfl 45 rfl (by kernel_rfl) (by kernel_rfl) (by kernel_rfl) (by kernel_rfl) (fun _ _ _ h => h) (fun w' _ => by kernel_rfl) ⟨A_10, B_10, trivial⟩ ?_
            simp only [Act.put, List.setIfInBounds_toArray, List.set_cons_zero, List.set_cons_succ]
            refine h_take 2 (.agg (acs a).toArray) rfl 46 rfl (by kernel_rfl) (by kernel_rfl) (by kernel_rfl) (by kernel_rfl) (fun _ _ _ h => h) (fun w' hw => run_op_load _ _ rfl A (0) rfl (acs a) (((c_a a L)).range hw.1) (KA.out)) ⟨A_10, B_10, trivial⟩ ?_
            simp only [Act.put, List.setIfInBounds_toArray, List.set_cons_zero, List.set_cons_succ]
            refine h_take 4 (.pointer (some ⟨A, 3, none⟩)) rfl 48 rfl (by kernel_rfl) (by kernel_rfl) (by kernel_rfl) (by kernel_rfl) (fun _ _ _ h => h) (fun w' _ => by kernel_rfl) ⟨A_10, B_10, trivial⟩ ?_
            simp only [Act.put, List.setIfInBounds_toArray, List.set_cons_zero, List.set_cons_succ]
            refine h_take 5 (.agg (dgC L).toArray) rfl 49 rfl (by kernel_rfl) (by kernel_rfl) (by kernel_rfl) (by kernel_rfl) (fun _ _ _ h => h) (fun w' hw => run_op_load _ _ rfl A (3) rfl (dgC L) (((c_p a L)).range hw.1) (SPL.out)) ⟨A_10, B_10, trivial⟩ ?_
            simp only [Act.put, List.setIfInBounds_toArray, List.set_cons_zero, List.set_cons_succ]
            refine h_take 7 (.pointer (some ⟨B, 0, none⟩)) rfl 51 rfl (by kernel_rfl) (by kernel_rfl) (by kernel_rfl) (by kernel_rfl) (fun _ _ _ h => h) (fun w' _ => by kernel_rfl) ⟨A_10, B_10, trivial⟩ ?_
            simp only [Act.put, List.setIfInBounds_toArray, List.set_cons_zero, List.set_cons_succ]
            refine h_take 8 (.agg (acs b).toArray) rfl 52 rfl (by kernel_rfl) (by kernel_rfl) (by kernel_rfl) (by kernel_rfl) (fun _ _ _ h => h) (fun w' hw => run_op_load _ _ rfl B (0) rfl (acs b) (((c_a b M)).range hw.2.1) (KB.out)) ⟨A_10, B_10, trivial⟩ ?_
            simp only [Act.put, List.setIfInBounds_toArray, List.set_cons_zero, List.set_cons_succ]
            refine h_take 10 (.pointer (some ⟨B, 3, none⟩)) rfl 54 rfl (by kernel_rfl) (by kernel_rfl) (by kernel_rfl) (by kernel_rfl) (fun _ _ _ h => h) (fun w' _ => by kernel_rfl) ⟨A_10, B_10, trivial⟩ ?_
            simp only [Act.put, List.setIfInBounds_toArray, List.set_cons_zero, List.set_cons_succ]
            refine h_take 11 (.agg (dgC M).toArray) rfl 55 rfl (by kernel_rfl) (by kernel_rfl) (by kernel_rfl) (by kernel_rfl) (fun _ _ _ h => h) (fun w' hw => run_op_load _ _ rfl B (3) rfl (dgC M) (((c_p b M)).range hw.2.1) (SPM.out)) ⟨A_10, B_10, trivial⟩ ?_
            simp only [Act.put, List.setIfInBounds_toArray, List.set_cons_zero, List.set_cons_succ]
            refine h_one (i := 3) (by kernel_rfl) (o_call rfl 47 rfl (by kernel_rfl) (run_op_call 17 _ _ rfl #[.agg (acs a).toArray] (by simp only [List.map_toArray, List.map_cons, List.map_nil]; rfl) Tryd.func17 (by kernel_rfl) (by kernel_rfl) _) (COA.out _) ?_)
            rintro e y11 ⟨rfl, hB⟩
            have A_12 : Row y11 A 60 (clc a L) := A_10.old hB
            have B_12 : Row y11 B 60 (clc b M) := B_10.old hB
            have bel_12 : Below w.heap.size w y11 := below_step bel_10 bel_10.size hB
            clear A_10 B_10 bel_10 hB
            refine ⟨_, rfl, ⟨A_12, B_12, trivial⟩, ?_⟩
            simp only [Act.put, List.setIfInBounds_toArray, List.set_cons_zero, List.set_cons_succ]
            refine h_take 6 (.agg (clc a L).toArray) rfl 50 rfl (by kernel_rfl) (by kernel_rfl) (by kernel_rfl) (by kernel_rfl) (fun _ _ _ h => h) (fun w' _ => run_op_build _ _ rfl _ (by simp only [List.map_toArray, List.map_cons, List.map_nil]; exact BA.out) w') ⟨A_12, B_12, trivial⟩ ?_
            simp only [Act.put, List.setIfInBounds_toArray, List.set_cons_zero, List.set_cons_succ]
            refine h_one (i := 9) (by kernel_rfl) (o_call rfl 53 rfl (by kernel_rfl) (run_op_call 17 _ _ rfl #[.agg (acs b).toArray] (by simp only [List.map_toArray, List.map_cons, List.map_nil]; rfl) Tryd.func17 (by kernel_rfl) (by kernel_rfl) _) (COB.out _) ?_)
            rintro e y13 ⟨rfl, hB⟩
            have A_14 : Row y13 A 60 (clc a L) := A_12.old hB
            have B_14 : Row y13 B 60 (clc b M) := B_12.old hB
            have bel_14 : Below w.heap.size w y13 := below_step bel_12 bel_12.size hB
            clear A_12 B_12 bel_12 hB
            refine ⟨_, rfl, ⟨A_14, B_14, trivial⟩, ?_⟩
            simp only [Act.put, List.setIfInBounds_toArray, List.set_cons_zero, List.set_cons_succ]
            refine h_take 12 (.agg (clc b M).toArray) rfl 56 rfl (by kernel_rfl) (by kernel_rfl) (by kernel_rfl) (by kernel_rfl) (fun _ _ _ h => h) (fun w' _ => run_op_build _ _ rfl _ (by simp only [List.map_toArray, List.map_cons, List.map_nil]; exact BB.out) w') ⟨A_14, B_14, trivial⟩ ?_
            simp only [Act.put, List.setIfInBounds_toArray, List.set_cons_zero, List.set_cons_succ]
            refine h_one (i := 13) (by kernel_rfl) (o_call rfl 57 rfl (by kernel_rfl) (run_op_call 25 _ _ rfl #[.int .i64 p, .agg (clc a L).toArray, .agg (clc b M).toArray] (by simp only [List.map_toArray, List.map_cons, List.map_nil]; rfl) Tryd.func25 (by kernel_rfl) (by kernel_rfl) _) (CRX.out _ (HKW2.out _ bel_14)) ?_)
            rintro e y15 ⟨rfl, hB⟩
            have A_16 : Row y15 A 60 (clc a L) := A_14.old hB
            have B_16 : Row y15 B 60 (clc b M) := B_14.old hB
            have bel_16 : Below w.heap.size w y15 := below_step bel_14 bel_14.size hB
            clear A_14 B_14 bel_14 hB
            refine ⟨_, rfl, ⟨A_16, B_16, trivial⟩, ?_⟩
            simp only [Act.put, List.setIfInBounds_toArray, List.set_cons_zero, List.set_cons_succ]
            refine h_take 14 (.tuple #[.slice none 0 0, .slice none 0 0, .bool false]) rfl 43 rfl (by kernel_rfl) (by kernel_rfl) (by kernel_rfl) (by kernel_rfl) (fun _ _ _ h => h) (fun w' _ => by kernel_rfl) ⟨A_16, B_16, trivial⟩ ?_
            simp only [Act.put, List.setIfInBounds_toArray, List.set_cons_zero, List.set_cons_succ]
            refine h_take 15 (.slice none 0 0) rfl 58 rfl (by kernel_rfl) (by kernel_rfl) (by kernel_rfl) (by kernel_rfl) (fun _ _ _ h => h) (fun w' _ => by kernel_rfl) ⟨A_16, B_16, trivial⟩ ?_
            simp only [Act.put, List.setIfInBounds_toArray, List.set_cons_zero, List.set_cons_succ]
            refine h_take 16 (.slice none 0 0) rfl 59 rfl (by kernel_rfl) (by kernel_rfl) (by kernel_rfl) (by kernel_rfl) (fun _ _ _ h => h) (fun w' _ => by kernel_rfl) ⟨A_16, B_16, trivial⟩ ?_
            simp only [Act.put, List.setIfInBounds_toArray, List.set_cons_zero, List.set_cons_succ]
            refine h_take 17 (.bool false) rfl 60 rfl (by kernel_rfl) (by kernel_rfl) (by kernel_rfl) (by kernel_rfl) (fun _ _ _ h => h) (fun w' _ => by kernel_rfl) ⟨A_16, B_16, trivial⟩ ?_
            simp only [Act.put, List.setIfInBounds_toArray, List.set_cons_zero, List.set_cons_succ]
            refine h_take 18 (.slice none 0 0) rfl 10 rfl (by kernel_rfl) (by kernel_rfl) (by kernel_rfl) (by kernel_rfl) (fun _ _ _ h => h) (fun w' _ => by kernel_rfl) ⟨A_16, B_16, trivial⟩ ?_
            simp only [Act.put, List.setIfInBounds_toArray, List.set_cons_zero, List.set_cons_succ]
            refine h_take 19 (.slice none 0 0) rfl 11 rfl (by kernel_rfl) (by kernel_rfl) (by kernel_rfl) (by kernel_rfl) (fun _ _ _ h => h) (fun w' _ => by kernel_rfl) ⟨A_16, B_16, trivial⟩ ?_
            simp only [Act.put, List.setIfInBounds_toArray, List.set_cons_zero, List.set_cons_succ]
            refine h_take 20 (.bool false) rfl 12 rfl (by kernel_rfl) (by kernel_rfl) (by kernel_rfl) (by kernel_rfl) (fun _ _ _ h => h) (fun w' _ => by kernel_rfl) ⟨A_16, B_16, trivial⟩ ?_
            simp only [Act.put, List.setIfInBounds_toArray, List.set_cons_zero, List.set_cons_succ]
            refine wpAnyH_done (by kernel_rfl) ?_ _
            go_wp2_with (first
              | ((with_reducible refine at_slot 63 ?_); (refine arm_want (.bool false) 63 rfl (by kernel_rfl) (run_op_neqBB _ _ _ rfl false false rfl rfl false rfl _) ?_); try simp only [Act.put, List.setIfInBounds_toArray, List.set_cons_zero, List.set_cons_succ]))
            refine (CS0.out _).mono ?_
            rintro e y17 ⟨rfl, hB⟩
            have A_18 : Row y17 A 60 (clc a L) := A_16.old hB
            have B_18 : Row y17 B 60 (clc b M) := B_16.old hB
            have bel_18 : Below w.heap.size w y17 := below_step bel_16 bel_16.size hB
            clear A_16 B_16 bel_16 hB
            go_wp2_with fail
            refine (CS0.out _).mono ?_
            rintro e y19 ⟨rfl, hB⟩
            have A_20 : Row y19 A 60 (clc a L) := A_18.old hB
            have B_20 : Row y19 B 60 (clc b M) := B_18.old hB
            have bel_20 : Below w.heap.size w y19 := below_step bel_18 bel_18.size hB
            clear A_18 B_18 bel_18 hB
            go_wp2_with (first
              | ((with_reducible refine at_slot 91 ?_); (refine arm_load (o := ⟨some 91, _, _, _, _, _⟩) rfl _ _ rfl A 0 rfl (acs a) ((c_a a L).range A_20) KA.out ?_); try simp only [Act.put, List.setIfInBounds_toArray, List.set_cons_zero, List.set_cons_succ]))
            refine (CHA.out _ (HKW.out _ bel_20)).mono ?_
            rintro e y21 ⟨rfl, hB⟩
            have A_22 : Row y21 A 60 (clc a L) := A_20.old hB
            have B_22 : Row y21 B 60 (clc b M) := B_20.old hB
            have bel_22 : Below w.heap.size w y21 := below_step bel_20 bel_20.size hB
            clear A_20 B_20 bel_20 hB
            go_wp2_with (first
              | ((with_reducible refine at_slot 13 ?_); (refine arm_alloc (o := ⟨some 13, _, _, _, _, _⟩) rfl _ rfl (u8s zh) zH ?_); intro D v23a De hDa nD; try simp only [Act.put, List.setIfInBounds_toArray, List.set_cons_zero, List.set_cons_succ])
              | ((with_reducible refine arm_store (o := ⟨none, _, _, _, _, _⟩) rfl _ _ _ rfl D 0 rfl (u8s da) rfl _ _ hDa (fitH KD.out) (u8s_one _) (szH KD.out) ?_); intro v23 hDb oD sD; try simp only [Act.put, List.setIfInBounds_toArray, List.set_cons_zero, List.set_cons_succ])
              | ((with_reducible refine at_slot 97 ?_); (refine arm_load (o := ⟨some 97, _, _, _, _, _⟩) rfl _ _ rfl B 0 rfl (acs b) ((c_a b M).range ((B_22.old nD.below).only oD (by have := De.out; have := B_22.lt; omega))) KB.out ?_); try simp only [Act.put, List.setIfInBounds_toArray, List.set_cons_zero, List.set_cons_succ]))
            have lD : y21.heap.size ≤ D := by have := De.out; omega
            have bD : Below y21.heap.size y21 v23 := below_only nD.below oD lD nD.below.size
            have rrD : Row v23 D 23 (u8s da) := hDb.congr (allH KD.out)
            have geD : w.heap.size ≤ D := Nat.le_trans bel_22.size lD
            clear hDa hDb nD oD sD De lD
            have A_24 : Row v23 A 60 (clc a L) := A_22.old bD
            have B_24 : Row v23 B 60 (clc b M) := B_22.old bD
            have bel_24 : Below w.heap.size w v23 := below_step bel_22 bel_22.size bD
            clear A_22 B_22 bel_22 bD
            refine (CHB.out _ (HKW.out _ bel_24)).mono ?_
            rintro e y25 ⟨rfl, hB⟩
            have A_26 : Row y25 A 60 (clc a L) := A_24.old hB
            have B_26 : Row y25 B 60 (clc b M) := B_24.old hB
            have D_26 : Row y25 D 23 (u8s da) := rrD.old hB
            have bel_26 : Below w.heap.size w y25 := below_step bel_24 bel_24.size hB
            clear A_24 B_24 rrD bel_24 hB
            go_wp2_with (first
              | ((with_reducible refine at_slot 15 ?_); (refine arm_alloc (o := ⟨some 15, _, _, _, _, _⟩) rfl _ rfl (u8s zh) zH ?_); intro E v27a Ee hEa nE; try simp only [Act.put, List.setIfInBounds_toArray, List.set_cons_zero, List.set_cons_succ])
              | ((with_reducible refine arm_store (o := ⟨none, _, _, _, _, _⟩) rfl _ _ _ rfl E 0 rfl (u8s db) rfl _ _ hEa (fitH KE.out) (u8s_one _) (szH KE.out) ?_); intro v27 hEb oE sE; try simp only [Act.put, List.setIfInBounds_toArray, List.set_cons_zero, List.set_cons_succ])
              | ((with_reducible refine at_slot 102 ?_); (refine arm_want (.bool false) 102 rfl (by kernel_rfl) (cmp_neq _ _ .i64 (by kernel_rfl) _ _ rfl .i64 (0) (0) rfl rfl false (by decide) _) ?_); try simp only [Act.put, List.setIfInBounds_toArray, List.set_cons_zero, List.set_cons_succ])
              | ((with_reducible refine at_slot 105 ?_); (refine arm_want (.bool true) 105 rfl (by kernel_rfl) (cmp_neq _ _ .i64 (by kernel_rfl) _ _ rfl .i64 (1) (0) rfl rfl true (by decide) _) ?_); try simp only [Act.put, List.setIfInBounds_toArray, List.set_cons_zero, List.set_cons_succ]))
            have lE : y25.heap.size ≤ E := by have := Ee.out; omega
            have bE : Below y25.heap.size y25 v27 := below_only nE.below oE lE nE.below.size
            have rrE : Row v27 E 23 (u8s db) := hEb.congr (allH KE.out)
            have geE : w.heap.size ≤ E := Nat.le_trans bel_26.size lE
            clear hEa hEb nE oE sE Ee lE
            have A_28 : Row v27 A 60 (clc a L) := A_26.old bE
            have B_28 : Row v27 B 60 (clc b M) := B_26.old bE
            have D_28 : Row v27 D 23 (u8s da) := D_26.old bE
            have bel_28 : Below w.heap.size w v27 := below_step bel_26 bel_26.size bE
            clear A_26 B_26 D_26 bel_26 bE
            go_ret
            exact ⟨rfl, bel_28⟩
        · have KD := Lib.hid zh_ok; have KE := Lib.hid (ansH_ok b)
          have CHA : Hid (∀ w0, w0.rangeAt 1 0 (u32s ks) → Calls Tryd.prog 27 #[.agg (acs a).toArray] w0 fun e w' => e = .returned (.tuple #[.agg (u8s zh).toArray, .int .i64 1]) ∧ Below w0.heap.size w0 w') := Lib.hid fun w0 h => (ahash_any a w0 HKA.out h).mono fun e w' h => ⟨by rw [h.ret]; rw [show ansH a = zh from if_neg hra, show ansE a = 1 from if_neg hra]; rfl, h.bel⟩
          have CHB : Hid (∀ w0, w0.rangeAt 1 0 (u32s ks) → Calls Tryd.prog 27 #[.agg (acs b).toArray] w0 fun e w' => e = .returned (.tuple #[.agg (u8s (ansH b)).toArray, .int .i64 (ansE b : Int)]) ∧ Below w0.heap.size w0 w') := Lib.hid fun w0 h => (ahash_any b w0 HKB.out h).mono fun e w' h => ⟨by rw [h.ret]; skip, h.bel⟩
          clear hra
          obtain ⟨da, hda⟩ : ∃ d, d = zh := ⟨_, rfl⟩
          rw [← hda] at CHA KD
          clear hda
          generalize ansH b = db at *
          generalize ansE b = eb at *
          go_enter Tryd.func5, Tryd.ntmps5
          go_wp2_with (first
            | ((with_reducible refine at_slot 4 ?_); (refine arm_box (o := ⟨some 4, _, _, _, _, _⟩) rfl _ _ rfl (clc a L) rfl ?_); intro A v1 Ae hv1 nv1; try simp only [Act.put, List.setIfInBounds_toArray, List.set_cons_zero, List.set_cons_succ])
            | ((with_reducible refine at_slot 5 ?_); (refine arm_box (o := ⟨some 5, _, _, _, _, _⟩) rfl _ _ rfl (clc b M) rfl ?_); intro B v2 Be hv2 nv2; try simp only [Act.put, List.setIfInBounds_toArray, List.set_cons_zero, List.set_cons_succ]))
          have hbv1 := nv1.below
          have rrv1 : Row v1 A 60 (clc a L) := hv1
          have hbv2 := nv2.below
          have rrv2 : Row v2 B 60 (clc b M) := hv2
          have geA : w.heap.size ≤ A := by have := Ae.out; omega
          clear hv1 nv1 Ae
          have bel_3 : Below w.heap.size w v1 := hbv1
          clear hbv1
          have geB : w.heap.size ≤ B := by have := Be.out; have := bel_3.size; omega
          have ltAB : A < B := by have := Be.out; have := rrv1.lt; omega
          clear hv2 nv2 Be
          have A_4 : Row v2 A 60 (clc a L) := rrv1.old hbv2
          have bel_4 : Below w.heap.size w v2 := below_step bel_3 bel_3.size hbv2
          clear rrv1 bel_3 hbv2
          refine (CA.out _ (HKW.out _ bel_4)).mono ?_
          rintro e y5 ⟨rfl, hB⟩
          have A_6 : Row y5 A 60 (clc a L) := A_4.old hB
          have B_6 : Row y5 B 60 (clc b M) := rrv2.old hB
          have bel_6 : Below w.heap.size w y5 := below_step bel_4 bel_4.size hB
          clear A_4 rrv2 bel_4 hB
          go_wp2_with (first
            | ((with_reducible refine at_slot 25 ?_); (refine arm_want (.string a.nm) 25 rfl (by kernel_rfl) (run_op_load1 _ _ rfl (.string) (by kernel_rfl) rfl ⟨A, 0, none⟩ rfl (.string a.nm) (A_6.cell HNA.out)) ?_); try simp only [Act.put, List.setIfInBounds_toArray, List.set_cons_zero, List.set_cons_succ])
            | ((with_reducible refine at_slot 31 ?_); (refine arm_want (.string b.nm) 31 rfl (by kernel_rfl) (run_op_load1 _ _ rfl (.string) (by kernel_rfl) rfl ⟨B, 0, none⟩ rfl (.string b.nm) (B_6.cell HNB.out)) ?_); try simp only [Act.put, List.setIfInBounds_toArray, List.set_cons_zero, List.set_cons_succ])
            | ((with_reducible refine at_slot 37 ?_); (refine arm_load (o := ⟨some 37, _, _, _, _, _⟩) rfl _ _ rfl A 0 rfl (clc a L) ((Has.refl _).range A_6) SA.out ?_); try simp only [Act.put, List.setIfInBounds_toArray, List.set_cons_zero, List.set_cons_succ])
            | ((with_reducible refine at_slot 38 ?_); (refine arm_load (o := ⟨some 38, _, _, _, _, _⟩) rfl _ _ rfl B 0 rfl (clc b M) ((Has.refl _).range B_6) SB.out ?_); try simp only [Act.put, List.setIfInBounds_toArray, List.set_cons_zero, List.set_cons_succ]))
          refine (CX.out _ (HKW.out _ bel_6)).mono ?_
          rintro e y7 ⟨rfl, hB⟩
          have A_8 : Row y7 A 60 (clc a L) := A_6.old hB
          have B_8 : Row y7 B 60 (clc b M) := B_6.old hB
          have bel_8 : Below w.heap.size w y7 := below_step bel_6 bel_6.size hB
          clear A_6 B_6 bel_6 hB
          go_wp2_with fail
          refine wp_region_held (S := fun w' => Row w' A 60 (clc a L) ∧ Row w' B 60 (clc b M) ∧ True) (by kernel_rfl) ?_
          change wpAnyH _ _ _ _ _ _ _ _ y7.drew
          have hd9 : Below y7.heap.size y7 y7.drew := (Below.refl _ _).drew
          have A_10 : Row y7.drew A 60 (clc a L) := A_8.old hd9
          have B_10 : Row y7.drew B 60 (clc b M) := B_8.old hd9
          have bel_10 : Below w.heap.size w y7.drew := below_step bel_8 bel_8.size hd9
          clear A_8 B_8 bel_8 hd9
          generalize y7.drew = yz9 at A_10 B_10 bel_10 ⊢
          refine h_take 0 (.int .i64 p) rfl 44 rfl (by kernel_rfl) (by kernel_rfl) (by kernel_rfl) (by kernel_rfl) (fun _ _ _ h => h) (fun w' _ => by kernel_rfl) ⟨A_10, B_10, trivial⟩ ?_
          simp only [Act.put, List.setIfInBounds_toArray, List.set_cons_zero, List.set_cons_succ]
          refine h_take 1 (.pointer (some ⟨A, 0, none⟩)) rfl 45 rfl (by kernel_rfl) (by kernel_rfl) (by kernel_rfl) (by kernel_rfl) (fun _ _ _ h => h) (fun w' _ => by kernel_rfl) ⟨A_10, B_10, trivial⟩ ?_
          simp only [Act.put, List.setIfInBounds_toArray, List.set_cons_zero, List.set_cons_succ]
          refine h_take 2 (.agg (acs a).toArray) rfl 46 rfl (by kernel_rfl) (by kernel_rfl) (by kernel_rfl) (by kernel_rfl) (fun _ _ _ h => h) (fun w' hw => run_op_load _ _ rfl A (0) rfl (acs a) (((c_a a L)).range hw.1) (KA.out)) ⟨A_10, B_10, trivial⟩ ?_
          simp only [Act.put, List.setIfInBounds_toArray, List.set_cons_zero, List.set_cons_succ]
          refine h_take 4 (.pointer (some ⟨A, 3, none⟩)) rfl 48 rfl (by kernel_rfl) (by kernel_rfl) (by kernel_rfl) (by kernel_rfl) (fun _ _ _ h => h) (fun w' _ => by kernel_rfl) ⟨A_10, B_10, trivial⟩ ?_
          simp only [Act.put, List.setIfInBounds_toArray, List.set_cons_zero, List.set_cons_succ]
          refine h_take 5 (.agg (dgC L).toArray) rfl 49 rfl (by kernel_rfl) (by kernel_rfl) (by kernel_rfl) (by kernel_rfl) (fun _ _ _ h => h) (fun w' hw => run_op_load _ _ rfl A (3) rfl (dgC L) (((c_p a L)).range hw.1) (SPL.out)) ⟨A_10, B_10, trivial⟩ ?_
          simp only [Act.put, List.setIfInBounds_toArray, List.set_cons_zero, List.set_cons_succ]
          refine h_take 7 (.pointer (some ⟨B, 0, none⟩)) rfl 51 rfl (by kernel_rfl) (by kernel_rfl) (by kernel_rfl) (by kernel_rfl) (fun _ _ _ h => h) (fun w' _ => by kernel_rfl) ⟨A_10, B_10, trivial⟩ ?_
          simp only [Act.put, List.setIfInBounds_toArray, List.set_cons_zero, List.set_cons_succ]
          refine h_take 8 (.agg (acs b).toArray) rfl 52 rfl (by kernel_rfl) (by kernel_rfl) (by kernel_rfl) (by kernel_rfl) (fun _ _ _ h => h) (fun w' hw => run_op_load _ _ rfl B (0) rfl (acs b) (((c_a b M)).range hw.2.1) (KB.out)) ⟨A_10, B_10, trivial⟩ ?_
          simp only [Act.put, List.setIfInBounds_toArray, List.set_cons_zero, List.set_cons_succ]
          refine h_take 10 (.pointer (some ⟨B, 3, none⟩)) rfl 54 rfl (by kernel_rfl) (by kernel_rfl) (by kernel_rfl) (by kernel_rfl) (fun _ _ _ h => h) (fun w' _ => by kernel_rfl) ⟨A_10, B_10, trivial⟩ ?_
          simp only [Act.put, List.setIfInBounds_toArray, List.set_cons_zero, List.set_cons_succ]
          refine h_take 11 (.agg (dgC M).toArray) rfl 55 rfl (by kernel_rfl) (by kernel_rfl) (by kernel_rfl) (by kernel_rfl) (fun _ _ _ h => h) (fun w' hw => run_op_load _ _ rfl B (3) rfl (dgC M) (((c_p b M)).range hw.2.1) (SPM.out)) ⟨A_10, B_10, trivial⟩ ?_
          simp only [Act.put, List.setIfInBounds_toArray, List.set_cons_zero, List.set_cons_succ]
          refine h_one (i := 3) (by kernel_rfl) (o_call rfl 47 rfl (by kernel_rfl) (run_op_call 17 _ _ rfl #[.agg (acs a).toArray] (by simp only [List.map_toArray, List.map_cons, List.map_nil]; rfl) Tryd.func17 (by kernel_rfl) (by kernel_rfl) _) (COA.out _) ?_)
          rintro e y11 ⟨rfl, hB⟩
          have A_12 : Row y11 A 60 (clc a L) := A_10.old hB
          have B_12 : Row y11 B 60 (clc b M) := B_10.old hB
          have bel_12 : Below w.heap.size w y11 := below_step bel_10 bel_10.size hB
          clear A_10 B_10 bel_10 hB
          refine ⟨_, rfl, ⟨A_12, B_12, trivial⟩, ?_⟩
          simp only [Act.put, List.setIfInBounds_toArray, List.set_cons_zero, List.set_cons_succ]
          refine h_take 6 (.agg (clc a L).toArray) rfl 50 rfl (by kernel_rfl) (by kernel_rfl) (by kernel_rfl) (by kernel_rfl) (fun _ _ _ h => h) (fun w' _ => run_op_build _ _ rfl _ (by simp only [List.map_toArray, List.map_cons, List.map_nil]; exact BA.out) w') ⟨A_12, B_12, trivial⟩ ?_
          simp only [Act.put, List.setIfInBounds_toArray, List.set_cons_zero, List.set_cons_succ]
          refine h_one (i := 9) (by kernel_rfl) (o_call rfl 53 rfl (by kernel_rfl) (run_op_call 17 _ _ rfl #[.agg (acs b).toArray] (by simp only [List.map_toArray, List.map_cons, List.map_nil]; rfl) Tryd.func17 (by kernel_rfl) (by kernel_rfl) _) (COB.out _) ?_)
          rintro e y13 ⟨rfl, hB⟩
          have A_14 : Row y13 A 60 (clc a L) := A_12.old hB
          have B_14 : Row y13 B 60 (clc b M) := B_12.old hB
          have bel_14 : Below w.heap.size w y13 := below_step bel_12 bel_12.size hB
          clear A_12 B_12 bel_12 hB
          refine ⟨_, rfl, ⟨A_14, B_14, trivial⟩, ?_⟩
          simp only [Act.put, List.setIfInBounds_toArray, List.set_cons_zero, List.set_cons_succ]
          refine h_take 12 (.agg (clc b M).toArray) rfl 56 rfl (by kernel_rfl) (by kernel_rfl) (by kernel_rfl) (by kernel_rfl) (fun _ _ _ h => h) (fun w' _ => run_op_build _ _ rfl _ (by simp only [List.map_toArray, List.map_cons, List.map_nil]; exact BB.out) w') ⟨A_14, B_14, trivial⟩ ?_
          simp only [Act.put, List.setIfInBounds_toArray, List.set_cons_zero, List.set_cons_succ]
          refine h_one (i := 13) (by kernel_rfl) (o_call rfl 57 rfl (by kernel_rfl) (run_op_call 25 _ _ rfl #[.int .i64 p, .agg (clc a L).toArray, .agg (clc b M).toArray] (by simp only [List.map_toArray, List.map_cons, List.map_nil]; rfl) Tryd.func25 (by kernel_rfl) (by kernel_rfl) _) (CRX.out _ (HKW2.out _ bel_14)) ?_)
          rintro e y15 ⟨rfl, hB⟩
          have A_16 : Row y15 A 60 (clc a L) := A_14.old hB
          have B_16 : Row y15 B 60 (clc b M) := B_14.old hB
          have bel_16 : Below w.heap.size w y15 := below_step bel_14 bel_14.size hB
          clear A_14 B_14 bel_14 hB
          refine ⟨_, rfl, ⟨A_16, B_16, trivial⟩, ?_⟩
          simp only [Act.put, List.setIfInBounds_toArray, List.set_cons_zero, List.set_cons_succ]
          refine h_take 14 (.tuple #[.slice none 0 0, .slice none 0 0, .bool false]) rfl 43 rfl (by kernel_rfl) (by kernel_rfl) (by kernel_rfl) (by kernel_rfl) (fun _ _ _ h => h) (fun w' _ => by kernel_rfl) ⟨A_16, B_16, trivial⟩ ?_
          simp only [Act.put, List.setIfInBounds_toArray, List.set_cons_zero, List.set_cons_succ]
          refine h_take 15 (.slice none 0 0) rfl 58 rfl (by kernel_rfl) (by kernel_rfl) (by kernel_rfl) (by kernel_rfl) (fun _ _ _ h => h) (fun w' _ => by kernel_rfl) ⟨A_16, B_16, trivial⟩ ?_
          simp only [Act.put, List.setIfInBounds_toArray, List.set_cons_zero, List.set_cons_succ]
          refine h_take 16 (.slice none 0 0) rfl 59 rfl (by kernel_rfl) (by kernel_rfl) (by kernel_rfl) (by kernel_rfl) (fun _ _ _ h => h) (fun w' _ => by kernel_rfl) ⟨A_16, B_16, trivial⟩ ?_
          simp only [Act.put, List.setIfInBounds_toArray, List.set_cons_zero, List.set_cons_succ]
          refine h_take 17 (.bool false) rfl 60 rfl (by kernel_rfl) (by kernel_rfl) (by kernel_rfl) (by kernel_rfl) (fun _ _ _ h => h) (fun w' _ => by kernel_rfl) ⟨A_16, B_16, trivial⟩ ?_
          simp only [Act.put, List.setIfInBounds_toArray, List.set_cons_zero, List.set_cons_succ]
          refine h_take 18 (.slice none 0 0) rfl 10 rfl (by kernel_rfl) (by kernel_rfl) (by kernel_rfl) (by kernel_rfl) (fun _ _ _ h => h) (fun w' _ => by kernel_rfl) ⟨A_16, B_16, trivial⟩ ?_
          simp only [Act.put, List.setIfInBounds_toArray, List.set_cons_zero, List.set_cons_succ]
          refine h_take 19 (.slice none 0 0) rfl 11 rfl (by kernel_rfl) (by kernel_rfl) (by kernel_rfl) (by kernel_rfl) (fun _ _ _ h => h) (fun w' _ => by kernel_rfl) ⟨A_16, B_16, trivial⟩ ?_
          simp only [Act.put, List.setIfInBounds_toArray, List.set_cons_zero, List.set_cons_succ]
          refine h_take 20 (.bool false) rfl 12 rfl (by kernel_rfl) (by kernel_rfl) (by kernel_rfl) (by kernel_rfl) (fun _ _ _ h => h) (fun w' _ => by kernel_rfl) ⟨A_16, B_16, trivial⟩ ?_
          simp only [Act.put, List.setIfInBounds_toArray, List.set_cons_zero, List.set_cons_succ]
          refine wpAnyH_done (by kernel_rfl) ?_ _
          go_wp2_with (first
            | ((with_reducible refine at_slot 63 ?_); (refine arm_want (.bool false) 63 rfl (by kernel_rfl) (run_op_neqBB _ _ _ rfl false false rfl rfl false rfl _) ?_); try simp only [Act.put, List.setIfInBounds_toArray, List.set_cons_zero, List.set_cons_succ]))
          refine (CS0.out _).mono ?_
          rintro e y17 ⟨rfl, hB⟩
          have A_18 : Row y17 A 60 (clc a L) := A_16.old hB
          have B_18 : Row y17 B 60 (clc b M) := B_16.old hB
          have bel_18 : Below w.heap.size w y17 := below_step bel_16 bel_16.size hB
          clear A_16 B_16 bel_16 hB
          go_wp2_with fail
          refine (CS0.out _).mono ?_
          rintro e y19 ⟨rfl, hB⟩
          have A_20 : Row y19 A 60 (clc a L) := A_18.old hB
          have B_20 : Row y19 B 60 (clc b M) := B_18.old hB
          have bel_20 : Below w.heap.size w y19 := below_step bel_18 bel_18.size hB
          clear A_18 B_18 bel_18 hB
          go_wp2_with (first
            | ((with_reducible refine at_slot 91 ?_); (refine arm_load (o := ⟨some 91, _, _, _, _, _⟩) rfl _ _ rfl A 0 rfl (acs a) ((c_a a L).range A_20) KA.out ?_); try simp only [Act.put, List.setIfInBounds_toArray, List.set_cons_zero, List.set_cons_succ]))
          refine (CHA.out _ (HKW.out _ bel_20)).mono ?_
          rintro e y21 ⟨rfl, hB⟩
          have A_22 : Row y21 A 60 (clc a L) := A_20.old hB
          have B_22 : Row y21 B 60 (clc b M) := B_20.old hB
          have bel_22 : Below w.heap.size w y21 := below_step bel_20 bel_20.size hB
          clear A_20 B_20 bel_20 hB
          go_wp2_with (first
            | ((with_reducible refine at_slot 13 ?_); (refine arm_alloc (o := ⟨some 13, _, _, _, _, _⟩) rfl _ rfl (u8s zh) zH ?_); intro D v23a De hDa nD; try simp only [Act.put, List.setIfInBounds_toArray, List.set_cons_zero, List.set_cons_succ])
            | ((with_reducible refine arm_store (o := ⟨none, _, _, _, _, _⟩) rfl _ _ _ rfl D 0 rfl (u8s da) rfl _ _ hDa (fitH KD.out) (u8s_one _) (szH KD.out) ?_); intro v23 hDb oD sD; try simp only [Act.put, List.setIfInBounds_toArray, List.set_cons_zero, List.set_cons_succ])
            | ((with_reducible refine at_slot 97 ?_); (refine arm_load (o := ⟨some 97, _, _, _, _, _⟩) rfl _ _ rfl B 0 rfl (acs b) ((c_a b M).range ((B_22.old nD.below).only oD (by have := De.out; have := B_22.lt; omega))) KB.out ?_); try simp only [Act.put, List.setIfInBounds_toArray, List.set_cons_zero, List.set_cons_succ]))
          have lD : y21.heap.size ≤ D := by have := De.out; omega
          have bD : Below y21.heap.size y21 v23 := below_only nD.below oD lD nD.below.size
          have rrD : Row v23 D 23 (u8s da) := hDb.congr (allH KD.out)
          have geD : w.heap.size ≤ D := Nat.le_trans bel_22.size lD
          clear hDa hDb nD oD sD De lD
          have A_24 : Row v23 A 60 (clc a L) := A_22.old bD
          have B_24 : Row v23 B 60 (clc b M) := B_22.old bD
          have bel_24 : Below w.heap.size w v23 := below_step bel_22 bel_22.size bD
          clear A_22 B_22 bel_22 bD
          refine (CHB.out _ (HKW.out _ bel_24)).mono ?_
          rintro e y25 ⟨rfl, hB⟩
          have A_26 : Row y25 A 60 (clc a L) := A_24.old hB
          have B_26 : Row y25 B 60 (clc b M) := B_24.old hB
          have D_26 : Row y25 D 23 (u8s da) := rrD.old hB
          have bel_26 : Below w.heap.size w y25 := below_step bel_24 bel_24.size hB
          clear A_24 B_24 rrD bel_24 hB
          go_wp2_with (first
            | ((with_reducible refine at_slot 15 ?_); (refine arm_alloc (o := ⟨some 15, _, _, _, _, _⟩) rfl _ rfl (u8s zh) zH ?_); intro E v27a Ee hEa nE; try simp only [Act.put, List.setIfInBounds_toArray, List.set_cons_zero, List.set_cons_succ])
            | ((with_reducible refine arm_store (o := ⟨none, _, _, _, _, _⟩) rfl _ _ _ rfl E 0 rfl (u8s db) rfl _ _ hEa (fitH KE.out) (u8s_one _) (szH KE.out) ?_); intro v27 hEb oE sE; try simp only [Act.put, List.setIfInBounds_toArray, List.set_cons_zero, List.set_cons_succ])
            | ((with_reducible refine at_slot 102 ?_); (refine arm_want (.bool true) 102 rfl (by kernel_rfl) (cmp_neq _ _ .i64 (by kernel_rfl) _ _ rfl .i64 (1) (0) rfl rfl true (by decide) _) ?_); try simp only [Act.put, List.setIfInBounds_toArray, List.set_cons_zero, List.set_cons_succ]))
          have lE : y25.heap.size ≤ E := by have := Ee.out; omega
          have bE : Below y25.heap.size y25 v27 := below_only nE.below oE lE nE.below.size
          have rrE : Row v27 E 23 (u8s db) := hEb.congr (allH KE.out)
          have geE : w.heap.size ≤ E := Nat.le_trans bel_26.size lE
          clear hEa hEb nE oE sE Ee lE
          have A_28 : Row v27 A 60 (clc a L) := A_26.old bE
          have B_28 : Row v27 B 60 (clc b M) := B_26.old bE
          have D_28 : Row v27 D 23 (u8s da) := D_26.old bE
          have bel_28 : Below w.heap.size w v27 := below_step bel_26 bel_26.size bE
          clear A_26 B_26 D_26 bel_26 bE
          go_ret
          exact ⟨rfl, bel_28⟩
      | true =>
        obtain ⟨hra, hrb, hp, hld, hab⟩ := meet_true hm
        obtain ⟨n, hn4, hn1, hn2⟩ : ∃ n, n ≤ 4 ∧ leadK p.toNat L (digA a) n = leadK p.toNat M (digA b) n ∧ ∀ j, j < n → ¬ leadK p.toNat L (digA a) j = leadK p.toNat M (digA b) j := by
          rcases first_eq (f := leadK p.toNat L (digA a)) (g := leadK p.toNat M (digA b)) 4 with h | h
          · exact h
          · exact absurd hld (h 4 (Nat.le_refl _))
        have HIN := Lib.hid (img_ne H4.out G4.out HKA.out HKB.out hra hrb hab n hn4 hn2)
        have HL1 := Lib.hid (imgK_lt (p := p.toNat) H4.out hra n hn4); have HL2 := Lib.hid (imgK_lt (p := p.toNat) G4.out hrb n hn4)
        have HS1 := Lib.hid (imgK_len (p := p.toNat) H4.out hra n hn4); have HS2 := Lib.hid (imgK_len (p := p.toNat) G4.out hrb n hn4)
        have HG1 := Lib.hid (img_digest p.toNat L a n); have HG2 := Lib.hid (img_digest p.toNat M b n)
        have HG3 : Hid (digest (imgK p.toNat M b n) = leadK p.toNat L (digA a) n) := Lib.hid (by rw [← HG2.out, hn1])
        have KDG := Lib.hid (lead_ok (p := p.toNat) (L := L) (digA_ok a) n)
        obtain ⟨i1, hi1⟩ : ∃ x, x = imgK p.toNat L a n := ⟨_, rfl⟩
        obtain ⟨i2, hi2⟩ : ∃ x, x = imgK p.toNat M b n := ⟨_, rfl⟩
        obtain ⟨dg, hdg⟩ : ∃ x, x = leadK p.toNat L (digA a) n := ⟨_, rfl⟩
        rw [← hi1] at HIN HL1 HS1 HG1
        rw [← hi2] at HIN HL2 HS2 HG3
        rw [← hdg] at HG1 HG3 KDG
        have CX : Hid (∀ w0, w0.rangeAt 1 0 (u32s ks) → Calls Tryd.prog 24 #[.int .i64 p, .agg (clc a L).toArray, .agg (clc b M).toArray] w0 fun e w' => (∃ q1 c1 q2 c2, e = .returned (.tuple #[.slice q1 i1.length c1, .slice q2 i2.length c2, .bool true]) ∧ Came w' q1 c1 i1 ∧ Came w' q2 c2 i2) ∧ Below w0.heap.size w0 w') := Lib.hid fun w0 h => (clash_any p a b L M w0 HKA.out HKB.out H4.out G4.out h).mono fun e w' h => ⟨by
          obtain ⟨i, q1, c1, q2, c2, _, h1, h2, h3, h4, h5⟩ := h.yes hm
          obtain rfl := first_one h1 h2 hn1 hn2
          exact ⟨q1, c1, q2, c2, by rw [hi1, hi2]; exact h3, by rw [hi1]; exact h4, by rw [hi2]; exact h5⟩, h.bel⟩
        have CRX : Hid (∀ w0, w0.rangeAt 0 0 (u32s ks) → Calls Tryd.prog 25 #[.int .i64 p, .agg (clc a L).toArray, .agg (clc b M).toArray] w0 fun e w' => (∃ q1 c1 q2 c2, e = .returned (.tuple #[.slice q1 i1.length c1, .slice q2 i2.length c2, .bool true]) ∧ Came w' q1 c1 i1 ∧ Came w' q2 c2 i2) ∧ Below w0.heap.size w0 w') := Lib.hid fun w0 h => (rclash_any p a b L M w0 HKA.out HKB.out H4.out G4.out h).mono fun e w' h => ⟨by
          obtain ⟨i, q1, c1, q2, c2, _, h1, h2, h3, h4, h5⟩ := h.yes hm
          obtain rfl := first_one h1 h2 hn1 hn2
          exact ⟨q1, c1, q2, c2, by rw [hi1, hi2]; exact h3, by rw [hi1]; exact h4, by rw [hi2]; exact h5⟩, h.bel⟩
        have CS1 : Hid (∀ q c r d w0, Came w0 q c i1 → Came w0 r d i1 → Calls Tryd.prog 12 #[.slice q i1.length c, .slice r i1.length d] w0 fun e w' => e = .returned (.bool true) ∧ Below w0.heap.size w0 w') := Lib.hid fun q c r d w0 h1 h2 => by
          have h := Tg.same_any i1 i1 q r c d w0 h1.rd h2.rd (Nat.le_trans HS1.out (by omega)) (Nat.le_trans HS1.out (by omega))
          rw [decide_eq_true rfl] at h
          exact h
        have CS2 : Hid (∀ q c r d w0, Came w0 q c i2 → Came w0 r d i2 → Calls Tryd.prog 12 #[.slice q i2.length c, .slice r i2.length d] w0 fun e w' => e = .returned (.bool true) ∧ Below w0.heap.size w0 w') := Lib.hid fun q c r d w0 h1 h2 => by
          have h := Tg.same_any i2 i2 q r c d w0 h1.rd h2.rd (Nat.le_trans HS2.out (by omega)) (Nat.le_trans HS2.out (by omega))
          rw [decide_eq_true rfl] at h
          exact h
        have CS3 : Hid (∀ q c r d w0, Came w0 q c i1 → Came w0 r d i2 → Calls Tryd.prog 12 #[.slice q i1.length c, .slice r i2.length d] w0 fun e w' => e = .returned (.bool false) ∧ Below w0.heap.size w0 w') := Lib.hid fun q c r d w0 h1 h2 => by
          have h := Tg.same_any i1 i2 q r c d w0 h1.rd h2.rd (Nat.le_trans HS1.out (by omega)) (Nat.le_trans HS2.out (by omega))
          rw [decide_eq_false HIN.out] at h
          exact h
        have CO1 : Hid (∀ q c w0, Came w0 q c i1 → w0.rangeAt 1 0 (u32s ks) → Calls Tryd.prog 26 #[.slice q i1.length c] w0 fun e w' => e = .returned (.agg (u8s dg).toArray) ∧ Below w0.heap.size w0 w') := Lib.hid fun q c w0 hc h => by
          have := of_any i1 c q w0 HL1.out (Nat.le_trans HS1.out (by omega)) hc.cap_ hc.at_ h
          rw [← HG1.out] at this
          exact this
        have CO2 : Hid (∀ q c w0, Came w0 q c i2 → w0.rangeAt 1 0 (u32s ks) → Calls Tryd.prog 26 #[.slice q i2.length c] w0 fun e w' => e = .returned (.agg (u8s dg).toArray) ∧ Below w0.heap.size w0 w') := Lib.hid fun q c w0 hc h => by
          have := of_any i2 c q w0 HL2.out (Nat.le_trans HS2.out (by omega)) hc.cap_ hc.at_ h
          rw [HG3.out] at this
          exact this
        have KD := Lib.hid (digA_ok a); have KE := Lib.hid (digA_ok b)
        have CHA : Hid (∀ w0, w0.rangeAt 1 0 (u32s ks) → Calls Tryd.prog 27 #[.agg (acs a).toArray] w0 fun e w' => e = .returned (.tuple #[.agg (u8s (digA a)).toArray, .int .i64 0]) ∧ Below w0.heap.size w0 w') := Lib.hid fun w0 h => (ahash_any a w0 HKA.out h).mono fun e w' h => ⟨by rw [h.ret]; rw [show ansH a = digA a from if_pos hra, show ansE a = 0 from if_pos hra]; rfl, h.bel⟩
        have CHB : Hid (∀ w0, w0.rangeAt 1 0 (u32s ks) → Calls Tryd.prog 27 #[.agg (acs b).toArray] w0 fun e w' => e = .returned (.tuple #[.agg (u8s (digA b)).toArray, .int .i64 0]) ∧ Below w0.heap.size w0 w') := Lib.hid fun w0 h => (ahash_any b w0 HKB.out h).mono fun e w' h => ⟨by rw [h.ret]; rw [show ansH b = digA b from if_pos hrb, show ansE b = 0 from if_pos hrb]; rfl, h.bel⟩
        obtain ⟨u, hu⟩ : ∃ d, d = leadK p.toNat L (digA a) 4 := ⟨_, rfl⟩
        obtain ⟨v, hv⟩ : ∃ d, d = leadK p.toNat M (digA b) 4 := ⟨_, rfl⟩
        have KU : Hid (H32 u) := Lib.hid (hu ▸ lead_ok (digA_ok a) 4)
        have KV : Hid (H32 v) := Lib.hid (hv ▸ lead_ok (digA_ok b) 4)
        have CLA : Hid (∀ w0, w0.rangeAt 1 0 (u32s ks) → Calls Tryd.prog 8 #[.int .i64 p, .agg (u8s (digA a)).toArray, .agg (dgC L).toArray] w0 fun e w' => e = .returned (.tuple #[.agg (u8s u).toArray, .int .i64 0]) ∧ Below w0.heap.size w0 w') := Lib.hid fun w0 h => (lead_any p L (digA a) w0 H4.out (digA_ok a) h).mono fun e w' h => ⟨by rw [h.ret, show leadI p L (digA a) = u from (if_pos hp).trans hu.symm, show pathE p = 0 from if_pos hp]; rfl, h.bel⟩
        have CLB : Hid (∀ w0, w0.rangeAt 1 0 (u32s ks) → Calls Tryd.prog 8 #[.int .i64 p, .agg (u8s (digA b)).toArray, .agg (dgC M).toArray] w0 fun e w' => e = .returned (.tuple #[.agg (u8s v).toArray, .int .i64 0]) ∧ Below w0.heap.size w0 w') := Lib.hid fun w0 h => (lead_any p M (digA b) w0 G4.out (digA_ok b) h).mono fun e w' h => ⟨by rw [h.ret, show leadI p M (digA b) = v from (if_pos hp).trans hv.symm, show pathE p = 0 from if_pos hp]; rfl, h.bel⟩
        have HUV : Hid (u = v) := Lib.hid (by rw [hu, hv]; exact hld)
        have HAB := Lib.hid hab
        clear hm hra hrb hp hld hab hn4 hn1 hn2 hi1 hi2 hdg HIN HL1 HL2 HS1 HS2 HG1 HG2 HG3 hu hv
        generalize digA a = da at *
        generalize digA b = db at *
        go_enter Tryd.func5, Tryd.ntmps5
        go_wp2_with (first
          | ((with_reducible refine at_slot 4 ?_); (refine arm_box (o := ⟨some 4, _, _, _, _, _⟩) rfl _ _ rfl (clc a L) rfl ?_); intro A v1 Ae hv1 nv1; try simp only [Act.put, List.setIfInBounds_toArray, List.set_cons_zero, List.set_cons_succ])
          | ((with_reducible refine at_slot 5 ?_); (refine arm_box (o := ⟨some 5, _, _, _, _, _⟩) rfl _ _ rfl (clc b M) rfl ?_); intro B v2 Be hv2 nv2; try simp only [Act.put, List.setIfInBounds_toArray, List.set_cons_zero, List.set_cons_succ]))
        have hbv1 := nv1.below
        have rrv1 : Row v1 A 60 (clc a L) := hv1
        have hbv2 := nv2.below
        have rrv2 : Row v2 B 60 (clc b M) := hv2
        have geA : w.heap.size ≤ A := by have := Ae.out; omega
        clear hv1 nv1 Ae
        have bel_3 : Below w.heap.size w v1 := hbv1
        clear hbv1
        have geB : w.heap.size ≤ B := by have := Be.out; have := bel_3.size; omega
        have ltAB : A < B := by have := Be.out; have := rrv1.lt; omega
        clear hv2 nv2 Be
        have A_4 : Row v2 A 60 (clc a L) := rrv1.old hbv2
        have bel_4 : Below w.heap.size w v2 := below_step bel_3 bel_3.size hbv2
        clear rrv1 bel_3 hbv2
        refine (CA.out _ (HKW.out _ bel_4)).mono ?_
        rintro e y5 ⟨rfl, hB⟩
        have A_6 : Row y5 A 60 (clc a L) := A_4.old hB
        have B_6 : Row y5 B 60 (clc b M) := rrv2.old hB
        have bel_6 : Below w.heap.size w y5 := below_step bel_4 bel_4.size hB
        clear A_4 rrv2 bel_4 hB
        go_wp2_with (first
          | ((with_reducible refine at_slot 25 ?_); (refine arm_want (.string a.nm) 25 rfl (by kernel_rfl) (run_op_load1 _ _ rfl (.string) (by kernel_rfl) rfl ⟨A, 0, none⟩ rfl (.string a.nm) (A_6.cell HNA.out)) ?_); try simp only [Act.put, List.setIfInBounds_toArray, List.set_cons_zero, List.set_cons_succ])
          | ((with_reducible refine at_slot 31 ?_); (refine arm_want (.string b.nm) 31 rfl (by kernel_rfl) (run_op_load1 _ _ rfl (.string) (by kernel_rfl) rfl ⟨B, 0, none⟩ rfl (.string b.nm) (B_6.cell HNB.out)) ?_); try simp only [Act.put, List.setIfInBounds_toArray, List.set_cons_zero, List.set_cons_succ])
          | ((with_reducible refine at_slot 37 ?_); (refine arm_load (o := ⟨some 37, _, _, _, _, _⟩) rfl _ _ rfl A 0 rfl (clc a L) ((Has.refl _).range A_6) SA.out ?_); try simp only [Act.put, List.setIfInBounds_toArray, List.set_cons_zero, List.set_cons_succ])
          | ((with_reducible refine at_slot 38 ?_); (refine arm_load (o := ⟨some 38, _, _, _, _, _⟩) rfl _ _ rfl B 0 rfl (clc b M) ((Has.refl _).range B_6) SB.out ?_); try simp only [Act.put, List.setIfInBounds_toArray, List.set_cons_zero, List.set_cons_succ]))
        refine (CX.out _ (HKW.out _ bel_6)).mono ?_
        rintro e y7 ⟨⟨q1, c1, q2, c2, rfl, hC1, hC2⟩, hB⟩
        have A_8 : Row y7 A 60 (clc a L) := A_6.old hB
        have B_8 : Row y7 B 60 (clc b M) := B_6.old hB
        have bel_8 : Below w.heap.size w y7 := below_step bel_6 bel_6.size hB
        clear A_6 B_6 bel_6 hB
        go_wp2_with fail
        refine wp_region_held (S := fun w' => Row w' A 60 (clc a L) ∧ Row w' B 60 (clc b M) ∧ True) (by kernel_rfl) ?_
        change wpAnyH _ _ _ _ _ _ _ _ y7.drew
        have hd9 : Below y7.heap.size y7 y7.drew := (Below.refl _ _).drew
        have A_10 : Row y7.drew A 60 (clc a L) := A_8.old hd9
        have B_10 : Row y7.drew B 60 (clc b M) := B_8.old hd9
        have X_10 : Came y7.drew q1 c1 i1 := hC1.below hd9
        have Y_10 : Came y7.drew q2 c2 i2 := hC2.below hd9
        have bel_10 : Below w.heap.size w y7.drew := below_step bel_8 bel_8.size hd9
        clear A_8 B_8 hC1 hC2 bel_8 hd9
        generalize y7.drew = yz9 at A_10 B_10 X_10 Y_10 bel_10 ⊢
        refine h_take 0 (.int .i64 p) rfl 44 rfl (by kernel_rfl) (by kernel_rfl) (by kernel_rfl) (by kernel_rfl) (fun _ _ _ h => h) (fun w' _ => by kernel_rfl) ⟨A_10, B_10, trivial⟩ ?_
        simp only [Act.put, List.setIfInBounds_toArray, List.set_cons_zero, List.set_cons_succ]
        refine h_take 1 (.pointer (some ⟨A, 0, none⟩)) rfl 45 rfl (by kernel_rfl) (by kernel_rfl) (by kernel_rfl) (by kernel_rfl) (fun _ _ _ h => h) (fun w' _ => by kernel_rfl) ⟨A_10, B_10, trivial⟩ ?_
        simp only [Act.put, List.setIfInBounds_toArray, List.set_cons_zero, List.set_cons_succ]
        refine h_take 2 (.agg (acs a).toArray) rfl 46 rfl (by kernel_rfl) (by kernel_rfl) (by kernel_rfl) (by kernel_rfl) (fun _ _ _ h => h) (fun w' hw => run_op_load _ _ rfl A (0) rfl (acs a) (((c_a a L)).range hw.1) (KA.out)) ⟨A_10, B_10, trivial⟩ ?_
        simp only [Act.put, List.setIfInBounds_toArray, List.set_cons_zero, List.set_cons_succ]
        refine h_take 4 (.pointer (some ⟨A, 3, none⟩)) rfl 48 rfl (by kernel_rfl) (by kernel_rfl) (by kernel_rfl) (by kernel_rfl) (fun _ _ _ h => h) (fun w' _ => by kernel_rfl) ⟨A_10, B_10, trivial⟩ ?_
        simp only [Act.put, List.setIfInBounds_toArray, List.set_cons_zero, List.set_cons_succ]
        refine h_take 5 (.agg (dgC L).toArray) rfl 49 rfl (by kernel_rfl) (by kernel_rfl) (by kernel_rfl) (by kernel_rfl) (fun _ _ _ h => h) (fun w' hw => run_op_load _ _ rfl A (3) rfl (dgC L) (((c_p a L)).range hw.1) (SPL.out)) ⟨A_10, B_10, trivial⟩ ?_
        simp only [Act.put, List.setIfInBounds_toArray, List.set_cons_zero, List.set_cons_succ]
        refine h_take 7 (.pointer (some ⟨B, 0, none⟩)) rfl 51 rfl (by kernel_rfl) (by kernel_rfl) (by kernel_rfl) (by kernel_rfl) (fun _ _ _ h => h) (fun w' _ => by kernel_rfl) ⟨A_10, B_10, trivial⟩ ?_
        simp only [Act.put, List.setIfInBounds_toArray, List.set_cons_zero, List.set_cons_succ]
        refine h_take 8 (.agg (acs b).toArray) rfl 52 rfl (by kernel_rfl) (by kernel_rfl) (by kernel_rfl) (by kernel_rfl) (fun _ _ _ h => h) (fun w' hw => run_op_load _ _ rfl B (0) rfl (acs b) (((c_a b M)).range hw.2.1) (KB.out)) ⟨A_10, B_10, trivial⟩ ?_
        simp only [Act.put, List.setIfInBounds_toArray, List.set_cons_zero, List.set_cons_succ]
        refine h_take 10 (.pointer (some ⟨B, 3, none⟩)) rfl 54 rfl (by kernel_rfl) (by kernel_rfl) (by kernel_rfl) (by kernel_rfl) (fun _ _ _ h => h) (fun w' _ => by kernel_rfl) ⟨A_10, B_10, trivial⟩ ?_
        simp only [Act.put, List.setIfInBounds_toArray, List.set_cons_zero, List.set_cons_succ]
        refine h_take 11 (.agg (dgC M).toArray) rfl 55 rfl (by kernel_rfl) (by kernel_rfl) (by kernel_rfl) (by kernel_rfl) (fun _ _ _ h => h) (fun w' hw => run_op_load _ _ rfl B (3) rfl (dgC M) (((c_p b M)).range hw.2.1) (SPM.out)) ⟨A_10, B_10, trivial⟩ ?_
        simp only [Act.put, List.setIfInBounds_toArray, List.set_cons_zero, List.set_cons_succ]
        refine h_one (i := 3) (by kernel_rfl) (o_call rfl 47 rfl (by kernel_rfl) (run_op_call 17 _ _ rfl #[.agg (acs a).toArray] (by simp only [List.map_toArray, List.map_cons, List.map_nil]; rfl) Tryd.func17 (by kernel_rfl) (by kernel_rfl) _) (COA.out _) ?_)
        rintro e y11 ⟨rfl, hB⟩
        have A_12 : Row y11 A 60 (clc a L) := A_10.old hB
        have B_12 : Row y11 B 60 (clc b M) := B_10.old hB
        have X_12 : Came y11 q1 c1 i1 := X_10.below hB
        have Y_12 : Came y11 q2 c2 i2 := Y_10.below hB
        have bel_12 : Below w.heap.size w y11 := below_step bel_10 bel_10.size hB
        clear A_10 B_10 X_10 Y_10 bel_10 hB
        refine ⟨_, rfl, ⟨A_12, B_12, trivial⟩, ?_⟩
        simp only [Act.put, List.setIfInBounds_toArray, List.set_cons_zero, List.set_cons_succ]
        refine h_take 6 (.agg (clc a L).toArray) rfl 50 rfl (by kernel_rfl) (by kernel_rfl) (by kernel_rfl) (by kernel_rfl) (fun _ _ _ h => h) (fun w' _ => run_op_build _ _ rfl _ (by simp only [List.map_toArray, List.map_cons, List.map_nil]; exact BA.out) w') ⟨A_12, B_12, trivial⟩ ?_
        simp only [Act.put, List.setIfInBounds_toArray, List.set_cons_zero, List.set_cons_succ]
        refine h_one (i := 9) (by kernel_rfl) (o_call rfl 53 rfl (by kernel_rfl) (run_op_call 17 _ _ rfl #[.agg (acs b).toArray] (by simp only [List.map_toArray, List.map_cons, List.map_nil]; rfl) Tryd.func17 (by kernel_rfl) (by kernel_rfl) _) (COB.out _) ?_)
        rintro e y13 ⟨rfl, hB⟩
        have A_14 : Row y13 A 60 (clc a L) := A_12.old hB
        have B_14 : Row y13 B 60 (clc b M) := B_12.old hB
        have X_14 : Came y13 q1 c1 i1 := X_12.below hB
        have Y_14 : Came y13 q2 c2 i2 := Y_12.below hB
        have bel_14 : Below w.heap.size w y13 := below_step bel_12 bel_12.size hB
        clear A_12 B_12 X_12 Y_12 bel_12 hB
        refine ⟨_, rfl, ⟨A_14, B_14, trivial⟩, ?_⟩
        simp only [Act.put, List.setIfInBounds_toArray, List.set_cons_zero, List.set_cons_succ]
        refine h_take 12 (.agg (clc b M).toArray) rfl 56 rfl (by kernel_rfl) (by kernel_rfl) (by kernel_rfl) (by kernel_rfl) (fun _ _ _ h => h) (fun w' _ => run_op_build _ _ rfl _ (by simp only [List.map_toArray, List.map_cons, List.map_nil]; exact BB.out) w') ⟨A_14, B_14, trivial⟩ ?_
        simp only [Act.put, List.setIfInBounds_toArray, List.set_cons_zero, List.set_cons_succ]
        refine h_one (i := 13) (by kernel_rfl) (o_call rfl 57 rfl (by kernel_rfl) (run_op_call 25 _ _ rfl #[.int .i64 p, .agg (clc a L).toArray, .agg (clc b M).toArray] (by simp only [List.map_toArray, List.map_cons, List.map_nil]; rfl) Tryd.func25 (by kernel_rfl) (by kernel_rfl) _) (CRX.out _ (HKW2.out _ bel_14)) ?_)
        rintro e y15 ⟨⟨r1, d1_, r2, d2_, rfl, hC3, hC4⟩, hB⟩
        have A_16 : Row y15 A 60 (clc a L) := A_14.old hB
        have B_16 : Row y15 B 60 (clc b M) := B_14.old hB
        have X_16 : Came y15 q1 c1 i1 := X_14.below hB
        have Y_16 : Came y15 q2 c2 i2 := Y_14.below hB
        have bel_16 : Below w.heap.size w y15 := below_step bel_14 bel_14.size hB
        clear A_14 B_14 X_14 Y_14 bel_14 hB
        refine ⟨_, rfl, ⟨A_16, B_16, trivial⟩, ?_⟩
        simp only [Act.put, List.setIfInBounds_toArray, List.set_cons_zero, List.set_cons_succ]
        refine h_take 14 (.tuple #[.slice r1 i1.length d1_, .slice r2 i2.length d2_, .bool true]) rfl 43 rfl (by kernel_rfl) (by kernel_rfl) (by kernel_rfl) (by kernel_rfl) (fun _ _ _ h => h) (fun w' _ => by kernel_rfl) ⟨A_16, B_16, trivial⟩ ?_
        simp only [Act.put, List.setIfInBounds_toArray, List.set_cons_zero, List.set_cons_succ]
        refine h_take 15 (.slice r1 i1.length d1_) rfl 58 rfl (by kernel_rfl) (by kernel_rfl) (by kernel_rfl) (by kernel_rfl) (fun _ _ _ h => h) (fun w' _ => by kernel_rfl) ⟨A_16, B_16, trivial⟩ ?_
        simp only [Act.put, List.setIfInBounds_toArray, List.set_cons_zero, List.set_cons_succ]
        refine h_take 16 (.slice r2 i2.length d2_) rfl 59 rfl (by kernel_rfl) (by kernel_rfl) (by kernel_rfl) (by kernel_rfl) (fun _ _ _ h => h) (fun w' _ => by kernel_rfl) ⟨A_16, B_16, trivial⟩ ?_
        simp only [Act.put, List.setIfInBounds_toArray, List.set_cons_zero, List.set_cons_succ]
        refine h_take 17 (.bool true) rfl 60 rfl (by kernel_rfl) (by kernel_rfl) (by kernel_rfl) (by kernel_rfl) (fun _ _ _ h => h) (fun w' _ => by kernel_rfl) ⟨A_16, B_16, trivial⟩ ?_
        simp only [Act.put, List.setIfInBounds_toArray, List.set_cons_zero, List.set_cons_succ]
        refine h_take 18 (.slice r1 i1.length d1_) rfl 10 rfl (by kernel_rfl) (by kernel_rfl) (by kernel_rfl) (by kernel_rfl) (fun _ _ _ h => h) (fun w' _ => by kernel_rfl) ⟨A_16, B_16, trivial⟩ ?_
        simp only [Act.put, List.setIfInBounds_toArray, List.set_cons_zero, List.set_cons_succ]
        refine h_take 19 (.slice r2 i2.length d2_) rfl 11 rfl (by kernel_rfl) (by kernel_rfl) (by kernel_rfl) (by kernel_rfl) (fun _ _ _ h => h) (fun w' _ => by kernel_rfl) ⟨A_16, B_16, trivial⟩ ?_
        simp only [Act.put, List.setIfInBounds_toArray, List.set_cons_zero, List.set_cons_succ]
        refine h_take 20 (.bool true) rfl 12 rfl (by kernel_rfl) (by kernel_rfl) (by kernel_rfl) (by kernel_rfl) (fun _ _ _ h => h) (fun w' _ => by kernel_rfl) ⟨A_16, B_16, trivial⟩ ?_
        simp only [Act.put, List.setIfInBounds_toArray, List.set_cons_zero, List.set_cons_succ]
        refine wpAnyH_done (by kernel_rfl) ?_ _
        go_wp2_with (first
          | ((with_reducible refine at_slot 63 ?_); (refine arm_want (.bool false) 63 rfl (by kernel_rfl) (run_op_neqBB _ _ _ rfl true true rfl rfl false rfl _) ?_); try simp only [Act.put, List.setIfInBounds_toArray, List.set_cons_zero, List.set_cons_succ]))
        refine (CS1.out _ _ _ _ _ X_16 hC3).mono ?_
        rintro e y17 ⟨rfl, hB⟩
        have A_18 : Row y17 A 60 (clc a L) := A_16.old hB
        have B_18 : Row y17 B 60 (clc b M) := B_16.old hB
        have X_18 : Came y17 q1 c1 i1 := X_16.below hB
        have Y_18 : Came y17 q2 c2 i2 := Y_16.below hB
        have U_18 : Came y17 r1 d1_ i1 := hC3.below hB
        have V_18 : Came y17 r2 d2_ i2 := hC4.below hB
        have bel_18 : Below w.heap.size w y17 := below_step bel_16 bel_16.size hB
        clear A_16 B_16 X_16 Y_16 hC3 hC4 bel_16 hB
        go_wp2_with fail
        refine (CS2.out _ _ _ _ _ Y_18 V_18).mono ?_
        rintro e y19 ⟨rfl, hB⟩
        have A_20 : Row y19 A 60 (clc a L) := A_18.old hB
        have B_20 : Row y19 B 60 (clc b M) := B_18.old hB
        have X_20 : Came y19 q1 c1 i1 := X_18.below hB
        have Y_20 : Came y19 q2 c2 i2 := Y_18.below hB
        have U_20 : Came y19 r1 d1_ i1 := U_18.below hB
        have V_20 : Came y19 r2 d2_ i2 := V_18.below hB
        have bel_20 : Below w.heap.size w y19 := below_step bel_18 bel_18.size hB
        clear A_18 B_18 X_18 Y_18 U_18 V_18 bel_18 hB
        go_wp2_with fail
        refine (CS3.out _ _ _ _ _ X_20 Y_20).mono ?_
        rintro e y21 ⟨rfl, hB⟩
        have A_22 : Row y21 A 60 (clc a L) := A_20.old hB
        have B_22 : Row y21 B 60 (clc b M) := B_20.old hB
        have X_22 : Came y21 q1 c1 i1 := X_20.below hB
        have Y_22 : Came y21 q2 c2 i2 := Y_20.below hB
        have U_22 : Came y21 r1 d1_ i1 := U_20.below hB
        have V_22 : Came y21 r2 d2_ i2 := V_20.below hB
        have bel_22 : Below w.heap.size w y21 := below_step bel_20 bel_20.size hB
        clear A_20 B_20 X_20 Y_20 U_20 V_20 bel_20 hB
        go_wp2_with fail
        refine (CO1.out _ _ _ X_22 (HKW.out _ bel_22)).mono ?_
        rintro e y23 ⟨rfl, hB⟩
        have A_24 : Row y23 A 60 (clc a L) := A_22.old hB
        have B_24 : Row y23 B 60 (clc b M) := B_22.old hB
        have X_24 : Came y23 q1 c1 i1 := X_22.below hB
        have Y_24 : Came y23 q2 c2 i2 := Y_22.below hB
        have U_24 : Came y23 r1 d1_ i1 := U_22.below hB
        have V_24 : Came y23 r2 d2_ i2 := V_22.below hB
        have bel_24 : Below w.heap.size w y23 := below_step bel_22 bel_22.size hB
        clear A_22 B_22 X_22 Y_22 U_22 V_22 bel_22 hB
        go_wp2_with fail
        refine (CO2.out _ _ _ Y_24 (HKW.out _ bel_24)).mono ?_
        rintro e y25 ⟨rfl, hB⟩
        have A_26 : Row y25 A 60 (clc a L) := A_24.old hB
        have B_26 : Row y25 B 60 (clc b M) := B_24.old hB
        have X_26 : Came y25 q1 c1 i1 := X_24.below hB
        have Y_26 : Came y25 q2 c2 i2 := Y_24.below hB
        have U_26 : Came y25 r1 d1_ i1 := U_24.below hB
        have V_26 : Came y25 r2 d2_ i2 := V_24.below hB
        have bel_26 : Below w.heap.size w y25 := below_step bel_24 bel_24.size hB
        clear A_24 B_24 X_24 Y_24 U_24 V_24 bel_24 hB
        go_wp2_with (first
          | ((with_reducible refine at_slot 86 ?_); (refine arm_want (.bool false) 86 rfl (by kernel_rfl) (run_op_neqD KDG.out KDG.out _ _ _ rfl rfl rfl true (iff_of_true rfl rfl) _) ?_); try simp only [Act.put, List.setIfInBounds_toArray, List.set_cons_zero, List.set_cons_succ])
          | ((with_reducible refine at_slot 91 ?_); (refine arm_load (o := ⟨some 91, _, _, _, _, _⟩) rfl _ _ rfl A 0 rfl (acs a) ((c_a a L).range A_26) KA.out ?_); try simp only [Act.put, List.setIfInBounds_toArray, List.set_cons_zero, List.set_cons_succ]))
        refine (CHA.out _ (HKW.out _ bel_26)).mono ?_
        rintro e y27 ⟨rfl, hB⟩
        have A_28 : Row y27 A 60 (clc a L) := A_26.old hB
        have B_28 : Row y27 B 60 (clc b M) := B_26.old hB
        have X_28 : Came y27 q1 c1 i1 := X_26.below hB
        have Y_28 : Came y27 q2 c2 i2 := Y_26.below hB
        have U_28 : Came y27 r1 d1_ i1 := U_26.below hB
        have V_28 : Came y27 r2 d2_ i2 := V_26.below hB
        have bel_28 : Below w.heap.size w y27 := below_step bel_26 bel_26.size hB
        clear A_26 B_26 X_26 Y_26 U_26 V_26 bel_26 hB
        go_wp2_with (first
          | ((with_reducible refine at_slot 13 ?_); (refine arm_alloc (o := ⟨some 13, _, _, _, _, _⟩) rfl _ rfl (u8s zh) zH ?_); intro D v29a De hDa nD; try simp only [Act.put, List.setIfInBounds_toArray, List.set_cons_zero, List.set_cons_succ])
          | ((with_reducible refine arm_store (o := ⟨none, _, _, _, _, _⟩) rfl _ _ _ rfl D 0 rfl (u8s da) rfl _ _ hDa (fitH KD.out) (u8s_one _) (szH KD.out) ?_); intro v29 hDb oD sD; try simp only [Act.put, List.setIfInBounds_toArray, List.set_cons_zero, List.set_cons_succ])
          | ((with_reducible refine at_slot 97 ?_); (refine arm_load (o := ⟨some 97, _, _, _, _, _⟩) rfl _ _ rfl B 0 rfl (acs b) ((c_a b M).range ((B_28.old nD.below).only oD (by have := De.out; have := B_28.lt; omega))) KB.out ?_); try simp only [Act.put, List.setIfInBounds_toArray, List.set_cons_zero, List.set_cons_succ]))
        have lD : y27.heap.size ≤ D := by have := De.out; omega
        have bD : Below y27.heap.size y27 v29 := below_only nD.below oD lD nD.below.size
        have rrD : Row v29 D 23 (u8s da) := hDb.congr (allH KD.out)
        have geD : w.heap.size ≤ D := Nat.le_trans bel_28.size lD
        clear hDa hDb nD oD sD De lD
        have A_30 : Row v29 A 60 (clc a L) := A_28.old bD
        have B_30 : Row v29 B 60 (clc b M) := B_28.old bD
        have X_30 : Came v29 q1 c1 i1 := X_28.below bD
        have Y_30 : Came v29 q2 c2 i2 := Y_28.below bD
        have U_30 : Came v29 r1 d1_ i1 := U_28.below bD
        have V_30 : Came v29 r2 d2_ i2 := V_28.below bD
        have bel_30 : Below w.heap.size w v29 := below_step bel_28 bel_28.size bD
        clear A_28 B_28 X_28 Y_28 U_28 V_28 bel_28 bD
        refine (CHB.out _ (HKW.out _ bel_30)).mono ?_
        rintro e y31 ⟨rfl, hB⟩
        have A_32 : Row y31 A 60 (clc a L) := A_30.old hB
        have B_32 : Row y31 B 60 (clc b M) := B_30.old hB
        have X_32 : Came y31 q1 c1 i1 := X_30.below hB
        have Y_32 : Came y31 q2 c2 i2 := Y_30.below hB
        have U_32 : Came y31 r1 d1_ i1 := U_30.below hB
        have V_32 : Came y31 r2 d2_ i2 := V_30.below hB
        have D_32 : Row y31 D 23 (u8s da) := rrD.old hB
        have bel_32 : Below w.heap.size w y31 := below_step bel_30 bel_30.size hB
        clear A_30 B_30 X_30 Y_30 U_30 V_30 rrD bel_30 hB
        go_wp2_with (first
          | ((with_reducible refine at_slot 15 ?_); (refine arm_alloc (o := ⟨some 15, _, _, _, _, _⟩) rfl _ rfl (u8s zh) zH ?_); intro E v33a Ee hEa nE; try simp only [Act.put, List.setIfInBounds_toArray, List.set_cons_zero, List.set_cons_succ])
          | ((with_reducible refine arm_store (o := ⟨none, _, _, _, _, _⟩) rfl _ _ _ rfl E 0 rfl (u8s db) rfl _ _ hEa (fitH KE.out) (u8s_one _) (szH KE.out) ?_); intro v33 hEb oE sE; try simp only [Act.put, List.setIfInBounds_toArray, List.set_cons_zero, List.set_cons_succ])
          | ((with_reducible refine at_slot 102 ?_); (refine arm_want (.bool false) 102 rfl (by kernel_rfl) (cmp_neq _ _ .i64 (by kernel_rfl) _ _ rfl .i64 (0) (0) rfl rfl false (by decide) _) ?_); try simp only [Act.put, List.setIfInBounds_toArray, List.set_cons_zero, List.set_cons_succ])
          | ((with_reducible refine at_slot 105 ?_); (refine arm_want (.bool false) 105 rfl (by kernel_rfl) (cmp_neq _ _ .i64 (by kernel_rfl) _ _ rfl .i64 (0) (0) rfl rfl false (by decide) _) ?_); try simp only [Act.put, List.setIfInBounds_toArray, List.set_cons_zero, List.set_cons_succ])
          | ((with_reducible refine at_slot 111 ?_); (refine arm_load (o := ⟨some 111, _, _, _, _, _⟩) rfl _ _ rfl D 0 rfl (u8s da) ((Has.refl _).range ((D_32.old nE.below).only oE (by have := Ee.out; have := D_32.lt; omega))) (szH KD.out) ?_); try simp only [Act.put, List.setIfInBounds_toArray, List.set_cons_zero, List.set_cons_succ])
          | ((with_reducible refine at_slot 113 ?_); (refine arm_load (o := ⟨some 113, _, _, _, _, _⟩) rfl _ _ rfl A 3 rfl (dgC L) ((c_p a L).range ((A_32.old nE.below).only oE (by have := Ee.out; have := A_32.lt; omega))) SPL.out ?_); try simp only [Act.put, List.setIfInBounds_toArray, List.set_cons_zero, List.set_cons_succ]))
        have lE : y31.heap.size ≤ E := by have := Ee.out; omega
        have bE : Below y31.heap.size y31 v33 := below_only nE.below oE lE nE.below.size
        have rrE : Row v33 E 23 (u8s db) := hEb.congr (allH KE.out)
        have geE : w.heap.size ≤ E := Nat.le_trans bel_32.size lE
        clear hEa hEb nE oE sE Ee lE
        have A_34 : Row v33 A 60 (clc a L) := A_32.old bE
        have B_34 : Row v33 B 60 (clc b M) := B_32.old bE
        have X_34 : Came v33 q1 c1 i1 := X_32.below bE
        have Y_34 : Came v33 q2 c2 i2 := Y_32.below bE
        have U_34 : Came v33 r1 d1_ i1 := U_32.below bE
        have V_34 : Came v33 r2 d2_ i2 := V_32.below bE
        have D_34 : Row v33 D 23 (u8s da) := D_32.old bE
        have bel_34 : Below w.heap.size w v33 := below_step bel_32 bel_32.size bE
        clear A_32 B_32 X_32 Y_32 U_32 V_32 D_32 bel_32 bE
        refine (CLA.out _ (HKW.out _ bel_34)).mono ?_
        rintro e y35 ⟨rfl, hB⟩
        have A_36 : Row y35 A 60 (clc a L) := A_34.old hB
        have B_36 : Row y35 B 60 (clc b M) := B_34.old hB
        have X_36 : Came y35 q1 c1 i1 := X_34.below hB
        have Y_36 : Came y35 q2 c2 i2 := Y_34.below hB
        have U_36 : Came y35 r1 d1_ i1 := U_34.below hB
        have V_36 : Came y35 r2 d2_ i2 := V_34.below hB
        have D_36 : Row y35 D 23 (u8s da) := D_34.old hB
        have E_36 : Row y35 E 23 (u8s db) := rrE.old hB
        have bel_36 : Below w.heap.size w y35 := below_step bel_34 bel_34.size hB
        clear A_34 B_34 X_34 Y_34 U_34 V_34 D_34 rrE bel_34 hB
        go_wp2_with (first
          | ((with_reducible refine at_slot 17 ?_); (refine arm_alloc (o := ⟨some 17, _, _, _, _, _⟩) rfl _ rfl (u8s zh) zH ?_); intro F v37a Fe hFa nF; try simp only [Act.put, List.setIfInBounds_toArray, List.set_cons_zero, List.set_cons_succ])
          | ((with_reducible refine arm_store (o := ⟨none, _, _, _, _, _⟩) rfl _ _ _ rfl F 0 rfl (u8s u) rfl _ _ hFa (fitH KU.out) (u8s_one _) (szH KU.out) ?_); intro v37 hFb oF sF; try simp only [Act.put, List.setIfInBounds_toArray, List.set_cons_zero, List.set_cons_succ])
          | ((with_reducible refine at_slot 119 ?_); (refine arm_load (o := ⟨some 119, _, _, _, _, _⟩) rfl _ _ rfl E 0 rfl (u8s db) ((Has.refl _).range ((E_36.old nF.below).only oF (by have := Fe.out; have := E_36.lt; omega))) (szH KE.out) ?_); try simp only [Act.put, List.setIfInBounds_toArray, List.set_cons_zero, List.set_cons_succ])
          | ((with_reducible refine at_slot 121 ?_); (refine arm_load (o := ⟨some 121, _, _, _, _, _⟩) rfl _ _ rfl B 3 rfl (dgC M) ((c_p b M).range ((B_36.old nF.below).only oF (by have := Fe.out; have := B_36.lt; omega))) SPM.out ?_); try simp only [Act.put, List.setIfInBounds_toArray, List.set_cons_zero, List.set_cons_succ]))
        have lF : y35.heap.size ≤ F := by have := Fe.out; omega
        have bF : Below y35.heap.size y35 v37 := below_only nF.below oF lF nF.below.size
        have rrF : Row v37 F 23 (u8s u) := hFb.congr (allH KU.out)
        have geF : w.heap.size ≤ F := Nat.le_trans bel_36.size lF
        clear hFa hFb nF oF sF Fe lF
        have A_38 : Row v37 A 60 (clc a L) := A_36.old bF
        have B_38 : Row v37 B 60 (clc b M) := B_36.old bF
        have X_38 : Came v37 q1 c1 i1 := X_36.below bF
        have Y_38 : Came v37 q2 c2 i2 := Y_36.below bF
        have U_38 : Came v37 r1 d1_ i1 := U_36.below bF
        have V_38 : Came v37 r2 d2_ i2 := V_36.below bF
        have D_38 : Row v37 D 23 (u8s da) := D_36.old bF
        have E_38 : Row v37 E 23 (u8s db) := E_36.old bF
        have bel_38 : Below w.heap.size w v37 := below_step bel_36 bel_36.size bF
        clear A_36 B_36 X_36 Y_36 U_36 V_36 D_36 E_36 bel_36 bF
        refine (CLB.out _ (HKW.out _ bel_38)).mono ?_
        rintro e y39 ⟨rfl, hB⟩
        have A_40 : Row y39 A 60 (clc a L) := A_38.old hB
        have B_40 : Row y39 B 60 (clc b M) := B_38.old hB
        have X_40 : Came y39 q1 c1 i1 := X_38.below hB
        have Y_40 : Came y39 q2 c2 i2 := Y_38.below hB
        have U_40 : Came y39 r1 d1_ i1 := U_38.below hB
        have V_40 : Came y39 r2 d2_ i2 := V_38.below hB
        have D_40 : Row y39 D 23 (u8s da) := D_38.old hB
        have E_40 : Row y39 E 23 (u8s db) := E_38.old hB
        have F_40 : Row y39 F 23 (u8s u) := rrF.old hB
        have bel_40 : Below w.heap.size w y39 := below_step bel_38 bel_38.size hB
        clear A_38 B_38 X_38 Y_38 U_38 V_38 D_38 E_38 rrF bel_38 hB
        go_wp2_with (first
          | ((with_reducible refine at_slot 19 ?_); (refine arm_alloc (o := ⟨some 19, _, _, _, _, _⟩) rfl _ rfl (u8s zh) zH ?_); intro G v41a Ge hGa nG; try simp only [Act.put, List.setIfInBounds_toArray, List.set_cons_zero, List.set_cons_succ])
          | ((with_reducible refine arm_store (o := ⟨none, _, _, _, _, _⟩) rfl _ _ _ rfl G 0 rfl (u8s v) rfl _ _ hGa (fitH KV.out) (u8s_one _) (szH KV.out) ?_); intro v41 hGb oG sG; try simp only [Act.put, List.setIfInBounds_toArray, List.set_cons_zero, List.set_cons_succ])
          | ((with_reducible refine at_slot 127 ?_); (refine arm_want (.bool true) 127 rfl (by kernel_rfl) (cmp_eql _ _ .i64 (by kernel_rfl) _ _ rfl .i64 (0) (0) rfl rfl true (by decide) _) ?_); try simp only [Act.put, List.setIfInBounds_toArray, List.set_cons_zero, List.set_cons_succ])
          | ((with_reducible refine at_slot 130 ?_); (refine arm_want (.bool true) 130 rfl (by kernel_rfl) (cmp_eql _ _ .i64 (by kernel_rfl) _ _ rfl .i64 (0) (0) rfl rfl true (by decide) _) ?_); try simp only [Act.put, List.setIfInBounds_toArray, List.set_cons_zero, List.set_cons_succ])
          | ((with_reducible refine at_slot 133 ?_); (refine arm_want (.agg (u8s u).toArray) 133 rfl (by kernel_rfl) (run_op_load _ _ rfl F 0 rfl (u8s u) ((Has.refl _).range ((F_40.old nG.below).only oG (by have := Ge.out; have := F_40.lt; omega))) (szH KU.out)) ?_); try simp only [Act.put, List.setIfInBounds_toArray, List.set_cons_zero, List.set_cons_succ])
          | ((with_reducible refine at_slot 134 ?_); (refine arm_want (.agg (u8s v).toArray) 134 rfl (by kernel_rfl) (run_op_load _ _ rfl G 0 rfl (u8s v) ((Has.refl _).range (hGb.congr (allH KV.out))) (szH KV.out)) ?_); try simp only [Act.put, List.setIfInBounds_toArray, List.set_cons_zero, List.set_cons_succ])
          | ((with_reducible refine at_slot 135 ?_); (refine arm_want (.bool true) 135 rfl (by kernel_rfl) (run_op_eqlD KU.out KV.out _ _ _ rfl rfl rfl true (iff_of_true rfl HUV.out) _) ?_); try simp only [Act.put, List.setIfInBounds_toArray, List.set_cons_zero, List.set_cons_succ])
          | ((with_reducible refine at_slot 139 ?_); (refine arm_want (.agg (acs a).toArray) 139 rfl (by kernel_rfl) (run_op_load _ _ rfl A 0 rfl (acs a) ((c_a a L).range ((A_40.old nG.below).only oG (by have := Ge.out; have := A_40.lt; omega))) KA.out) ?_); try simp only [Act.put, List.setIfInBounds_toArray, List.set_cons_zero, List.set_cons_succ])
          | ((with_reducible refine at_slot 141 ?_); (refine arm_want (.agg (acs b).toArray) 141 rfl (by kernel_rfl) (run_op_load _ _ rfl B 0 rfl (acs b) ((c_a b M).range ((B_40.old nG.below).only oG (by have := Ge.out; have := B_40.lt; omega))) KB.out) ?_); try simp only [Act.put, List.setIfInBounds_toArray, List.set_cons_zero, List.set_cons_succ])
          | ((with_reducible refine at_slot 142 ?_); (refine arm_want (.bool true) 142 rfl (by kernel_rfl) (run_op_neqA _ _ _ rfl a b rfl rfl false (iff_of_false Bool.false_ne_true HAB.out) _) ?_); try simp only [Act.put, List.setIfInBounds_toArray, List.set_cons_zero, List.set_cons_succ])
          | ((with_reducible refine at_slot 144 ?_); (refine arm_want (.bool true) 144 rfl (by kernel_rfl) (run_op_eqlBB _ _ _ rfl true true rfl rfl true rfl _) ?_); try simp only [Act.put, List.setIfInBounds_toArray, List.set_cons_zero, List.set_cons_succ]))
        have lG : y39.heap.size ≤ G := by have := Ge.out; omega
        have bG : Below y39.heap.size y39 v41 := below_only nG.below oG lG nG.below.size
        have rrG : Row v41 G 23 (u8s v) := hGb.congr (allH KV.out)
        have geG : w.heap.size ≤ G := Nat.le_trans bel_40.size lG
        clear hGa hGb nG oG sG Ge lG
        have A_42 : Row v41 A 60 (clc a L) := A_40.old bG
        have B_42 : Row v41 B 60 (clc b M) := B_40.old bG
        have X_42 : Came v41 q1 c1 i1 := X_40.below bG
        have Y_42 : Came v41 q2 c2 i2 := Y_40.below bG
        have U_42 : Came v41 r1 d1_ i1 := U_40.below bG
        have V_42 : Came v41 r2 d2_ i2 := V_40.below bG
        have D_42 : Row v41 D 23 (u8s da) := D_40.old bG
        have E_42 : Row v41 E 23 (u8s db) := E_40.old bG
        have F_42 : Row v41 F 23 (u8s u) := F_40.old bG
        have bel_42 : Below w.heap.size w v41 := below_step bel_40 bel_40.size bG
        clear A_40 B_40 X_40 Y_40 U_40 V_40 D_40 E_40 F_40 bel_40 bG
        go_ret
        exact ⟨rfl, bel_42⟩
end Go.Proofs.YtaihhbiocolhcaaDoor.Pf
