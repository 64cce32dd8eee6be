/-
  The contracts of the document's bit, Lead and Check of layer 16. Over this seat's translation.
-/
import Derived.Test.YtaihhbiocolhcaaDoorPrfClash
import Derived.Test.YtaihhbiocolhcaaDoorAccRefAll
namespace Go.Proofs.YtaihhbiocolhcaaDoor.Pf
open Go.ChangeShapes Go.WideShapes Go.ChangeAt Go.RowKit Go.Proofs.YtaihhbiocolhcaaDoor.Mem Go.Proofs.YtaihhbiocolhcaaDoor.Bt Go.Proofs.YtaihhbiocolhcaaDoor.Wi Go.Proofs.YtaihhbiocolhcaaDoor.Sha Go.Proofs.YtaihhbiocolhcaaDoor.Ac Go.Proofs.YtaihhbiocolhcaaDoor.Tr
open Go.Proofs.YtaihhbiocolhcaaDoor.Tg (bytesOf bytesOf_length bytesOf_lt bytesOf_inj Rd Rd.below Parts parts_one arm_one tagD tagD_len tagOf_any refTag_any total image image_inj image_length)
open Go.Proofs.YtaihhbiocolhcaaDoor.Ep (H32 zh zh_ok Has h_len szH zH fitH allH came_at one_app)
set_option linter.unusedVariables false
set_option linter.unusedSimpArgs false

structure BtRel (w : World) (q h : Nat) (i v : Value) (wr : World) : Prop where
  ex : ∃ k : Nat, k ≤ h ∧ i = .int .i64 (k : Int) ∧ v = .int .i64 ((q / 2 ^ k : Nat) : Int)
  eq : w = wr
structure RlRel (w : World) (D R Y q : Nat) (L : List (List Nat)) (leaf : List Nat) (i : Value) (wr : World) : Prop where
  ex : ∃ k : Nat, k ≤ 4 ∧ i = .int .i64 (k : Int) ∧ Row wr D 23 (u8s (leadK q L leaf k))
  ry : Row wr Y 28 (dgC L)
  rr : Row wr R 23 (u8s zh)
  bel : Below w.heap.size w wr
set_option maxHeartbeats 4000000 in
set_option maxRecDepth 100000 in
theorem bit_any (q h : Nat) (w : World) (hq : q < 16) (hh : h < 5) :
    Calls Tryd.prog 30 #[.int .i64 (q : Int), .int .i64 (h : Int)] w fun e w' => e = .returned (.int .i64 ((q / 2 ^ h % 2 : Nat) : Int)) ∧ w = w' := by
  have HQ := Lib.hid hq
  go_enter Tryd.func30, Tryd.ntmps30
  go_wp2_with fail
  try simp only [Act.put]
  have h0 : BtRel w q h (.int .i64 0) (.int .i64 (q : Int)) w := ⟨⟨0, by omega, rfl, by rw [Nat.pow_zero, Nat.div_one]⟩, rfl⟩
  go_loopw [5, 0] (fun i v wr => BtRel w q h i v wr) (fun i _ _ => h - (intOf i).toNat)
  case atStart => exact h0
  case round =>
    clear h0
    obtain ⟨⟨k, hk, rfl, rfl⟩, rfl⟩ := hrel
    by_cases hlt : k < h
    · have ik : (k : Int) < (h : Int) := by omega
      have HX : Hid (q / 2 ^ k ≤ 9223372036854775807) := Lib.hid (by have := Nat.div_le_self q (2 ^ k); generalize q / 2 ^ k = z at *; omega)
      have HN : Hid (q / 2 ^ (k + 1) = q / 2 ^ k / 2) := Lib.hid (by rw [Nat.pow_succ, Nat.div_div_eq_div_mul])
      have HK : Hid (IntKind.i64.wrap ((k : Int) + 1) = ((k + 1 : Nat) : Int)) := Lib.hid (by rw [IntKind.wrap_i64]; omega)
      have ik5 : k < 5 := by omega
      obtain ⟨z, hz⟩ : ∃ z, z = q / 2 ^ k := ⟨_, rfl⟩
      rw [← hz] at HX HN ⊢
      clear hz
      go_wp2_with (first
        | ((with_reducible refine at_slot 12 ?_); (refine arm_want (.int .i64 ((z / 2 : Nat) : Int)) 12 rfl (by kernel_rfl) (run_op_quoN _ _ _ _ rfl z 2 rfl rfl (by omega) HX.out _) ?_); try simp only [Act.put, List.setIfInBounds_toArray, List.set_cons_zero, List.set_cons_succ]))
      try simp only [Act.put]
      go_roundw
      case rel => exact ⟨⟨k + 1, by omega, by go_num, by rw [HN.out]⟩, rfl⟩
      case measure => simp [intOf]; omega
    · obtain rfl : k = h := by omega
      obtain ⟨z, hz⟩ : ∃ z, z = q / 2 ^ k := ⟨_, rfl⟩
      rw [← hz]
      have HZ := Lib.hid hz
      clear hz
      go_wp2_with (first
        | ((with_reducible refine at_slot 14 ?_); (refine arm_want (.int .i64 ((z % 2 : Nat) : Int)) 14 rfl (by kernel_rfl) (run_op_remN _ _ _ _ rfl z 2 rfl rfl (by omega) _) ?_); try simp only [Act.put, List.setIfInBounds_toArray, List.set_cons_zero, List.set_cons_succ]))
      go_ret
      exact ⟨by rw [← HZ.out]; rfl, rfl⟩
set_option maxHeartbeats 4000000 in
set_option maxRecDepth 100000 in
theorem rlead_any (p : Int) (L : List (List Nat)) (leaf : List Nat) (w : World) (h4 : P4 L) (kl : H32 leaf) (hk : w.rangeAt 0 0 (u32s ks)) :
    Calls Tryd.prog 9 #[.int .i64 p, .agg (u8s leaf).toArray, .agg (dgC L).toArray] w (LeadPost w p L leaf) := by
  have hk1 : 0 < w.heap.size := range_lt hk (by simp [u32s, ks])
  have HKW : Hid (∀ w', Below w.heap.size w w' → w'.rangeAt 0 0 (u32s ks)) := Lib.hid fun w' hb => range_block hk (hb.block _ hk1)
  have H4 := Lib.hid h4; have KF := Lib.hid kl
  by_cases hin : 0 ≤ p ∧ p < 16
  · obtain ⟨q, rfl⟩ : ∃ q : Nat, p = (q : Int) := ⟨p.toNat, by omega⟩
    have hq : q < 16 := by omega
    have HQ := Lib.hid hq
    have d1 : decide ((q : Int) < 0) = false := decide_eq_false (by omega)
    have d2 : decide ((15 : Int) < (q : Int)) = false := decide_eq_false (by omega)
    have HI : Hid (leadI (q : Int) L leaf = leadK q L leaf 4) := Lib.hid (leadI_in hq L leaf)
    have HE : Hid (pathE (q : Int) = 0) := Lib.hid (pathE_in hq)
    clear hk hk1 h4 kl hin hq
    go_enter Tryd.func9, Tryd.ntmps9
    go_wp2_with (first
      | ((with_reducible refine at_slot 4 ?_); (refine arm_box (o := ⟨some 4, _, _, _, _, _⟩) rfl _ _ rfl (u8s leaf) rfl ?_); intro X v1 Xe hv1 nv1; try simp only [Act.put, List.setIfInBounds_toArray, List.set_cons_zero, List.set_cons_succ])
      | ((with_reducible refine at_slot 5 ?_); (refine arm_box (o := ⟨some 5, _, _, _, _, _⟩) rfl _ _ rfl (dgC L) rfl ?_); intro Y v2 Ye hv2 nv2; try simp only [Act.put, List.setIfInBounds_toArray, List.set_cons_zero, List.set_cons_succ])
      | ((with_reducible refine at_slot 6 ?_); (refine arm_alloc (o := ⟨some 6, _, _, _, _, _⟩) rfl _ rfl (u8s zh) zH ?_); intro R v3 Re hv3 nv3; try simp only [Act.put, List.setIfInBounds_toArray, List.set_cons_zero, List.set_cons_succ])
      | ((with_reducible refine at_slot 17 ?_); (refine pause ?_); try simp only [Act.put, List.setIfInBounds_toArray, List.set_cons_zero, List.set_cons_succ]))
    have hbv1 := nv1.below
    have rrv1 : Row v1 X 23 (u8s leaf) := hv1
    have hbv2 := nv2.below
    have rrv2 : Row v2 Y 28 (dgC L) := hv2
    have hbv3 := nv3.below
    have rrv3 : Row v3 R 23 (u8s zh) := hv3
    have geX : w.heap.size ≤ X := by have := Xe.out; omega
    clear hv1 nv1 Xe
    have bel_4 : Below w.heap.size w v1 := hbv1
    clear hbv1
    have geY : w.heap.size ≤ Y := by have := Ye.out; have := bel_4.size; omega
    have ltXY : X < Y := by have := Ye.out; have := rrv1.lt; omega
    clear hv2 nv2 Ye
    have X_5 : Row v2 X 23 (u8s leaf) := rrv1.old hbv2
    have bel_5 : Below w.heap.size w v2 := below_step bel_4 bel_4.size hbv2
    clear rrv1 bel_4 hbv2
    have geR : w.heap.size ≤ R := by have := Re.out; have := bel_5.size; omega
    have ltYR : Y < R := by have := Re.out; have := rrv2.lt; omega
    clear hv3 nv3 Re
    have X_6 : Row v3 X 23 (u8s leaf) := X_5.old hbv3
    have Y_6 : Row v3 Y 28 (dgC L) := rrv2.old hbv3
    have bel_6 : Below w.heap.size w v3 := below_step bel_5 bel_5.size hbv3
    clear X_5 rrv2 bel_5 hbv3
    refine go_on ?_
    have lY := Y_6.lt
    go_wp2_with (first
      | ((with_reducible refine at_slot 17 ?_); (refine arm_load (o := ⟨some 17, _, _, _, _, _⟩) rfl _ _ rfl X 0 rfl (u8s leaf) ((Has.refl _).range X_6) (szH KF.out) ?_); try simp only [Act.put, List.setIfInBounds_toArray, List.set_cons_zero, List.set_cons_succ])
      | ((with_reducible refine at_slot 8 ?_); (refine arm_alloc (o := ⟨some 8, _, _, _, _, _⟩) rfl _ rfl (u8s zh) zH ?_); intro D v7a De hDa nD; try simp only [Act.put, List.setIfInBounds_toArray, List.set_cons_zero, List.set_cons_succ])
      | ((with_reducible refine arm_store (o := ⟨none, _, _, _, _, _⟩) rfl _ _ _ rfl D 0 rfl (u8s leaf) rfl _ _ hDa (fitH KF.out) (u8s_one _) (szH KF.out) ?_); intro v7 hDb oD sD; try simp only [Act.put, List.setIfInBounds_toArray, List.set_cons_zero, List.set_cons_succ]))
    have lD : v3.heap.size ≤ D := by have := De.out; omega
    have bD : Below v3.heap.size v3 v7 := below_only nD.below oD lD nD.below.size
    have rrD : Row v7 D 23 (u8s leaf) := hDb.congr (allH KF.out)
    have geD : w.heap.size ≤ D := Nat.le_trans bel_6.size lD
    have neRD : R ≠ D := by have := rrv3.lt; omega
    have neYD : Y ≠ D := by have := Y_6.lt; omega
    clear hDa hDb nD oD sD De lD
    have X_8 : Row v7 X 23 (u8s leaf) := X_6.old bD
    have Y_8 : Row v7 Y 28 (dgC L) := Y_6.old bD
    have R_8 : Row v7 R 23 (u8s zh) := rrv3.old bD
    have bel_8 : Below w.heap.size w v7 := below_step bel_6 bel_6.size bD
    clear X_6 Y_6 rrv3 bel_6 bD
    try simp only [Act.put]
    have h0 : RlRel w D R Y q L leaf (.int .i64 0) v7 := ⟨⟨0, by omega, rfl, rrD⟩, Y_8, R_8, bel_8⟩
    clear rrD R_8 X_8 Y_8 bel_8
    go_loopw [9] (fun i wr => RlRel w D R Y q L leaf i wr) (fun i _ => 4 - (intOf i).toNat)
    case atStart => exact h0
    case round =>
      clear h0
      obtain ⟨⟨k, hk, rfl, hD⟩, hY, hR, bel⟩ := hrel
      by_cases hlt : k < 4
      · have ik : (k : Int) < 4 := by omega
        have HLT := Lib.hid hlt
        obtain ⟨dk, hdk⟩ : ∃ d, d = leadK q L leaf k := ⟨_, rfl⟩
        obtain ⟨bk, hbk⟩ : ∃ d, d = L.getD k [] := ⟨_, rfl⟩
        obtain ⟨dn, hdn⟩ : ∃ d, d = leadK q L leaf (k + 1) := ⟨_, rfl⟩
        have KD : Hid (H32 dk) := Lib.hid (hdk ▸ lead_ok KF.out k)
        have KN : Hid (H32 dn) := Lib.hid (hdn ▸ lead_ok KF.out (k + 1))
        have KB : Hid (H32 bk) := Lib.hid (hbk ▸ H4.out.at hlt)
        have HPB : Hid (Has (dgC L) (32 * k) (u8s bk)) := Lib.hid (hbk ▸ path_has H4.out.ok (H4.out.get hlt))
        have CB := Lib.hid (fun w0 => bit_any q k w0 HQ.out (by omega))
        have HW : Hid (IntKind.i64.wrap ((k : Int) + 1) = ((k + 1 : Nat) : Int)) := Lib.hid (by rw [IntKind.wrap_i64]; omega)
        have HST : Hid (dn = if q / 2 ^ k % 2 = 0 then joinD (k + 1) dk bk else joinD (k + 1) bk dk) := Lib.hid (by rw [hdn, hdk, hbk]; exact lead_succ q L leaf k)
        have HDN := Lib.hid hdn
        rw [← hdk] at hD
        clear hdk hbk hdn
        by_cases he : q / 2 ^ k % 2 = 0
        · have HJ : Hid (joinD (k + 1) dk bk = dn) := Lib.hid (by rw [HST.out, if_pos he])
          have CJ := Lib.hid (fun w0 h => rjoin_any (k + 1) dk bk w0 (by omega) KD.out KB.out h)
          rw [HJ.out] at CJ
          obtain ⟨m, hm⟩ : ∃ m, m = q / 2 ^ k % 2 := ⟨_, rfl⟩
          rw [← hm] at CB he
          have HM : Hid (decide ((m : Int) = 0) = true) := Lib.hid (decide_eq_true (by omega))
          clear hm he HST HJ
          go_wp2_with fail
          refine (CB.out _).mono ?_
          rintro e z101 ⟨rfl, rfl⟩
          go_wp2_with (first
            | ((with_reducible refine at_slot 25 ?_); (refine arm_want (.bool true) 25 rfl (by kernel_rfl) (cmp_eql _ _ .i64 (by kernel_rfl) _ _ rfl .i64 _ _ rfl rfl true HM.out _) ?_); try simp only [Act.put, List.setIfInBounds_toArray, List.set_cons_zero, List.set_cons_succ]))
          refine wp_region_held (S := fun w' => Row w' Y 28 (dgC L) ∧ True) (by kernel_rfl) ?_
          change wpAnyH _ _ _ _ _ _ _ _ wr.drew
          have hd102 : Below wr.heap.size wr wr.drew := (Below.refl _ _).drew
          have D_103 : Row wr.drew D 23 (u8s dk) := hD.old hd102
          have R_103 : Row wr.drew R 23 (u8s zh) := hR.old hd102
          have Y_103 : Row wr.drew Y 28 (dgC L) := hY.old hd102
          have bel_103 : Below w.heap.size w wr.drew := below_step bel bel.size hd102
          clear hD hR hY bel hd102
          generalize wr.drew = yz102 at D_103 R_103 Y_103 bel_103 ⊢
          refine h_take 0 (.int .i64 (k : Int)) rfl 26 rfl (by kernel_rfl) (by kernel_rfl) (by kernel_rfl) (by kernel_rfl) (fun _ _ _ h => h) (fun w' _ => by kernel_rfl) ⟨Y_103, trivial⟩ ?_
          simp only [Act.put, List.setIfInBounds_toArray, List.set_cons_zero, List.set_cons_succ]
          refine h_take 1 (.int .i64 ((k + 1 : Nat) : Int)) rfl 27 rfl (by kernel_rfl) (by kernel_rfl) (by kernel_rfl) (by kernel_rfl) (fun _ _ _ h => h) (fun w' _ => run_op_addK _ _ _ _ rfl _ _ _ rfl rfl HW.out w') ⟨Y_103, trivial⟩ ?_
          simp only [Act.put, List.setIfInBounds_toArray, List.set_cons_zero, List.set_cons_succ]
          refine h_take 3 (.int .i64 (k : Int)) rfl 29 rfl (by kernel_rfl) (by kernel_rfl) (by kernel_rfl) (by kernel_rfl) (fun _ _ _ h => h) (fun w' _ => by kernel_rfl) ⟨Y_103, trivial⟩ ?_
          simp only [Act.put, List.setIfInBounds_toArray, List.set_cons_zero, List.set_cons_succ]
          refine h_take 4 (.pointer (some ⟨Y, 32 * k, none⟩)) rfl 30 rfl (by kernel_rfl) (by kernel_rfl) (by kernel_rfl) (by kernel_rfl) (fun _ _ _ h => h) (fun w' _ => run_op_arr _ _ _ rfl 4 23 32 (by kernel_rfl) (by kernel_rfl) Y 0 rfl .i64 _ rfl k rfl HLT.out (32 * k) (by omega) w') ⟨Y_103, trivial⟩ ?_
          simp only [Act.put, List.setIfInBounds_toArray, List.set_cons_zero, List.set_cons_succ]
          refine h_take 5 (.agg (u8s bk).toArray) rfl 31 rfl (by kernel_rfl) (by kernel_rfl) (by kernel_rfl) (by kernel_rfl) (fun _ _ _ h => h) (fun w' hw => run_op_load _ _ rfl Y (32 * k) rfl (u8s bk) ((HPB.out).range hw.1) ((szH KB.out))) ⟨Y_103, trivial⟩ ?_
          simp only [Act.put, List.setIfInBounds_toArray, List.set_cons_zero, List.set_cons_succ]
          refine h_one (i := 2) (by kernel_rfl) (o_value (.agg (u8s dk).toArray) rfl 28 rfl (by kernel_rfl) (run_op_load _ _ rfl D 0 rfl (u8s dk) ((Has.refl _).range D_103) (szH KD.out)) ?_)
          refine ⟨⟨Y_103, trivial⟩, ?_⟩
          simp only [Act.put, List.setIfInBounds_toArray, List.set_cons_zero, List.set_cons_succ]
          refine h_one (i := 6) (by kernel_rfl) (o_call rfl 32 rfl (by kernel_rfl) (run_op_call 31 _ _ rfl #[.int .i64 ((k + 1 : Nat) : Int), .agg (u8s dk).toArray, .agg (u8s bk).toArray] (by simp only [List.map_toArray, List.map_cons, List.map_nil]; rfl) Tryd.func31 (by kernel_rfl) (by kernel_rfl) _) (CJ.out _ (HKW.out _ bel_103)) ?_)
          rintro e y104 ⟨rfl, hB⟩
          have D_105 : Row y104 D 23 (u8s dk) := D_103.old hB
          have R_105 : Row y104 R 23 (u8s zh) := R_103.old hB
          have Y_105 : Row y104 Y 28 (dgC L) := Y_103.old hB
          have bel_105 : Below w.heap.size w y104 := below_step bel_103 bel_103.size hB
          clear D_103 R_103 Y_103 bel_103 hB
          refine ⟨_, rfl, ⟨Y_105, trivial⟩, ?_⟩
          simp only [Act.put, List.setIfInBounds_toArray, List.set_cons_zero, List.set_cons_succ]
          refine h_one (i := 7) (by kernel_rfl) (o_skip rfl rfl (by kernel_rfl) (run_op_store _ _ _ rfl D (0) rfl (u8s dn) rfl _ _ D_105 (by rw [h_len KN.out, h_len KD.out]; omega) (u8s_one _) (szH KN.out)) ?_)
          have rq := row_setRow D_105 (lay (u8s dk) (0) (u8s dn))
          have oq := Only.setRow D y104 (lay (u8s dk) (0) (u8s dn)).toArray
          generalize y104.setRow D (lay (u8s dk) (0) (u8s dn)).toArray = y106 at rq oq ⊢
          have D_107 : Row y106 D 23 (u8s dn) := rq.congr (lay_all _ _ (by rw [h_len KN.out, h_len KD.out]))
          have R_107 : Row y106 R 23 (u8s zh) := R_105.only oq neRD
          have Y_107 : Row y106 Y 28 (dgC L) := Y_105.only oq neYD
          have bel_107 : Below w.heap.size w y106 := below_only bel_105 oq geD bel_105.size
          clear D_105 R_105 Y_105 bel_105 oq
          clear rq
          refine ⟨⟨Y_107, trivial⟩, ?_⟩
          refine wpAnyH_done (by kernel_rfl) ?_ _
          go_wp2_with fail
          try simp only [Act.put]
          go_roundw
          case rel => exact ⟨⟨k + 1, by omega, by go_num, HDN.out ▸ D_107⟩, Y_107, R_107, bel_107⟩
          case measure => simp [intOf]; omega
        · have HJ : Hid (joinD (k + 1) bk dk = dn) := Lib.hid (by rw [HST.out, if_neg he])
          have CJ := Lib.hid (fun w0 h => rjoin_any (k + 1) bk dk w0 (by omega) KB.out KD.out h)
          rw [HJ.out] at CJ
          obtain ⟨m, hm⟩ : ∃ m, m = q / 2 ^ k % 2 := ⟨_, rfl⟩
          rw [← hm] at CB he
          have HM : Hid (decide ((m : Int) = 0) = false) := Lib.hid (decide_eq_false (by omega))
          clear hm he HST HJ
          go_wp2_with fail
          refine (CB.out _).mono ?_
          rintro e z101 ⟨rfl, rfl⟩
          go_wp2_with (first
            | ((with_reducible refine at_slot 25 ?_); (refine arm_want (.bool false) 25 rfl (by kernel_rfl) (cmp_eql _ _ .i64 (by kernel_rfl) _ _ rfl .i64 _ _ rfl rfl false HM.out _) ?_); try simp only [Act.put, List.setIfInBounds_toArray, List.set_cons_zero, List.set_cons_succ]))
          refine wp_region_held (S := fun w' => Row w' Y 28 (dgC L) ∧ True) (by kernel_rfl) ?_
          change wpAnyH _ _ _ _ _ _ _ _ wr.drew
          have hd102 : Below wr.heap.size wr wr.drew := (Below.refl _ _).drew
          have D_103 : Row wr.drew D 23 (u8s dk) := hD.old hd102
          have R_103 : Row wr.drew R 23 (u8s zh) := hR.old hd102
          have Y_103 : Row wr.drew Y 28 (dgC L) := hY.old hd102
          have bel_103 : Below w.heap.size w wr.drew := below_step bel bel.size hd102
          clear hD hR hY bel hd102
          generalize wr.drew = yz102 at D_103 R_103 Y_103 bel_103 ⊢
          refine h_take 0 (.int .i64 (k : Int)) rfl 33 rfl (by kernel_rfl) (by kernel_rfl) (by kernel_rfl) (by kernel_rfl) (fun _ _ _ h => h) (fun w' _ => by kernel_rfl) ⟨Y_103, trivial⟩ ?_
          simp only [Act.put, List.setIfInBounds_toArray, List.set_cons_zero, List.set_cons_succ]
          refine h_take 1 (.int .i64 ((k + 1 : Nat) : Int)) rfl 34 rfl (by kernel_rfl) (by kernel_rfl) (by kernel_rfl) (by kernel_rfl) (fun _ _ _ h => h) (fun w' _ => run_op_addK _ _ _ _ rfl _ _ _ rfl rfl HW.out w') ⟨Y_103, trivial⟩ ?_
          simp only [Act.put, List.setIfInBounds_toArray, List.set_cons_zero, List.set_cons_succ]
          refine h_take 2 (.int .i64 (k : Int)) rfl 35 rfl (by kernel_rfl) (by kernel_rfl) (by kernel_rfl) (by kernel_rfl) (fun _ _ _ h => h) (fun w' _ => by kernel_rfl) ⟨Y_103, trivial⟩ ?_
          simp only [Act.put, List.setIfInBounds_toArray, List.set_cons_zero, List.set_cons_succ]
          refine h_take 3 (.pointer (some ⟨Y, 32 * k, none⟩)) rfl 36 rfl (by kernel_rfl) (by kernel_rfl) (by kernel_rfl) (by kernel_rfl) (fun _ _ _ h => h) (fun w' _ => run_op_arr _ _ _ rfl 4 23 32 (by kernel_rfl) (by kernel_rfl) Y 0 rfl .i64 _ rfl k rfl HLT.out (32 * k) (by omega) w') ⟨Y_103, trivial⟩ ?_
          simp only [Act.put, List.setIfInBounds_toArray, List.set_cons_zero, List.set_cons_succ]
          refine h_take 4 (.agg (u8s bk).toArray) rfl 37 rfl (by kernel_rfl) (by kernel_rfl) (by kernel_rfl) (by kernel_rfl) (fun _ _ _ h => h) (fun w' hw => run_op_load _ _ rfl Y (32 * k) rfl (u8s bk) ((HPB.out).range hw.1) ((szH KB.out))) ⟨Y_103, trivial⟩ ?_
          simp only [Act.put, List.setIfInBounds_toArray, List.set_cons_zero, List.set_cons_succ]
          refine h_one (i := 5) (by kernel_rfl) (o_value (.agg (u8s dk).toArray) rfl 38 rfl (by kernel_rfl) (run_op_load _ _ rfl D 0 rfl (u8s dk) ((Has.refl _).range D_103) (szH KD.out)) ?_)
          refine ⟨⟨Y_103, trivial⟩, ?_⟩
          simp only [Act.put, List.setIfInBounds_toArray, List.set_cons_zero, List.set_cons_succ]
          refine h_one (i := 6) (by kernel_rfl) (o_call rfl 39 rfl (by kernel_rfl) (run_op_call 31 _ _ rfl #[.int .i64 ((k + 1 : Nat) : Int), .agg (u8s bk).toArray, .agg (u8s dk).toArray] (by simp only [List.map_toArray, List.map_cons, List.map_nil]; rfl) Tryd.func31 (by kernel_rfl) (by kernel_rfl) _) (CJ.out _ (HKW.out _ bel_103)) ?_)
          rintro e y104 ⟨rfl, hB⟩
          have D_105 : Row y104 D 23 (u8s dk) := D_103.old hB
          have R_105 : Row y104 R 23 (u8s zh) := R_103.old hB
          have Y_105 : Row y104 Y 28 (dgC L) := Y_103.old hB
          have bel_105 : Below w.heap.size w y104 := below_step bel_103 bel_103.size hB
          clear D_103 R_103 Y_103 bel_103 hB
          refine ⟨_, rfl, ⟨Y_105, trivial⟩, ?_⟩
          simp only [Act.put, List.setIfInBounds_toArray, List.set_cons_zero, List.set_cons_succ]
          refine h_one (i := 7) (by kernel_rfl) (o_skip rfl rfl (by kernel_rfl) (run_op_store _ _ _ rfl D (0) rfl (u8s dn) rfl _ _ D_105 (by rw [h_len KN.out, h_len KD.out]; omega) (u8s_one _) (szH KN.out)) ?_)
          have rq := row_setRow D_105 (lay (u8s dk) (0) (u8s dn))
          have oq := Only.setRow D y104 (lay (u8s dk) (0) (u8s dn)).toArray
          generalize y104.setRow D (lay (u8s dk) (0) (u8s dn)).toArray = y106 at rq oq ⊢
          have D_107 : Row y106 D 23 (u8s dn) := rq.congr (lay_all _ _ (by rw [h_len KN.out, h_len KD.out]))
          have R_107 : Row y106 R 23 (u8s zh) := R_105.only oq neRD
          have Y_107 : Row y106 Y 28 (dgC L) := Y_105.only oq neYD
          have bel_107 : Below w.heap.size w y106 := below_only bel_105 oq geD bel_105.size
          clear D_105 R_105 Y_105 bel_105 oq
          clear rq
          refine ⟨⟨Y_107, trivial⟩, ?_⟩
          refine wpAnyH_done (by kernel_rfl) ?_ _
          go_wp2_with fail
          try simp only [Act.put]
          go_roundw
          case rel => exact ⟨⟨k + 1, by omega, by go_num, HDN.out ▸ D_107⟩, Y_107, R_107, bel_107⟩
          case measure => simp [intOf]; omega
      · obtain rfl : k = 4 := by omega
        have KE := Lib.hid (lead_ok (p := q) (L := L) KF.out 4)
        generalize leadK q L leaf 4 = dd at hD KE HI
        go_wp2_with (first
          | ((with_reducible refine at_slot 40 ?_); (refine arm_load (o := ⟨some 40, _, _, _, _, _⟩) rfl _ _ rfl D 0 rfl (u8s dd) ((Has.refl _).range hD) (szH KE.out) ?_); try simp only [Act.put, List.setIfInBounds_toArray, List.set_cons_zero, List.set_cons_succ])
          | ((with_reducible refine arm_store (o := ⟨none, _, _, _, _, _⟩) rfl _ _ _ rfl R 0 rfl (u8s dd) rfl _ _ (hR) (fitH KE.out) (u8s_one _) (szH KE.out) ?_); intro y9 hy9 oy9 sy9; try simp only [Act.put, List.setIfInBounds_toArray, List.set_cons_zero, List.set_cons_succ]))
        exact bodyPost_ret (result_row2 (p := 6) (u := 7) (ty := 23) (t := 23) (by kernel_rfl) _ _ R (u8s dd) (.int .i64 0) rfl rfl (hy9.congr (allH KE.out)) (szH KE.out)) rfl ⟨by rw [HI.out, HE.out]; rfl, below_only bel oy9 geR bel.size⟩
  · have HI : Hid (leadI p L leaf = zh) := Lib.hid (leadI_out hin L leaf)
    have HE : Hid (pathE p = 1) := Lib.hid (pathE_out hin)
    by_cases hn : p < 0
    · have d1 : decide (p < (0 : Int)) = true := decide_eq_true hn
      clear hk hk1 h4 kl hin hn
      go_enter Tryd.func9, Tryd.ntmps9
      go_wp2_with (first
        | ((with_reducible refine at_slot 4 ?_); (refine arm_box (o := ⟨some 4, _, _, _, _, _⟩) rfl _ _ rfl (u8s leaf) rfl ?_); intro X v1 Xe hv1 nv1; try simp only [Act.put, List.setIfInBounds_toArray, List.set_cons_zero, List.set_cons_succ])
        | ((with_reducible refine at_slot 5 ?_); (refine arm_box (o := ⟨some 5, _, _, _, _, _⟩) rfl _ _ rfl (dgC L) rfl ?_); intro Y v2 Ye hv2 nv2; try simp only [Act.put, List.setIfInBounds_toArray, List.set_cons_zero, List.set_cons_succ])
        | ((with_reducible refine at_slot 6 ?_); (refine arm_alloc (o := ⟨some 6, _, _, _, _, _⟩) rfl _ rfl (u8s zh) zH ?_); intro R v3 Re hv3 nv3; try simp only [Act.put, List.setIfInBounds_toArray, List.set_cons_zero, List.set_cons_succ])
        | ((with_reducible refine at_slot 16 ?_); (refine arm_build (o := ⟨some 16, _, _, _, _, _⟩) rfl _ _ rfl (u8s zh) (by kernel_rfl) ?_); try simp only [Act.put, List.setIfInBounds_toArray, List.set_cons_zero, List.set_cons_succ])
        | ((with_reducible refine arm_store (o := ⟨none, _, _, _, _, _⟩) rfl _ _ _ rfl R 0 rfl (u8s zh) rfl _ _ (hv3) (fitH zh_ok) (u8s_one _) (szH zh_ok) ?_); intro y9 hy9 oy9 sy9; try simp only [Act.put, List.setIfInBounds_toArray, List.set_cons_zero, List.set_cons_succ]))
      have hbv1 := nv1.below
      have rrv1 : Row v1 X 23 (u8s leaf) := hv1
      have hbv2 := nv2.below
      have rrv2 : Row v2 Y 28 (dgC L) := hv2
      have hbv3 := nv3.below
      have rrv3 : Row v3 R 23 (u8s zh) := hv3
      have geX : w.heap.size ≤ X := by have := Xe.out; omega
      clear hv1 nv1 Xe
      have bel_4 : Below w.heap.size w v1 := hbv1
      clear hbv1
      have geY : w.heap.size ≤ Y := by have := Ye.out; have := bel_4.size; omega
      have ltXY : X < Y := by have := Ye.out; have := rrv1.lt; omega
      clear hv2 nv2 Ye
      have X_5 : Row v2 X 23 (u8s leaf) := rrv1.old hbv2
      have bel_5 : Below w.heap.size w v2 := below_step bel_4 bel_4.size hbv2
      clear rrv1 bel_4 hbv2
      have geR : w.heap.size ≤ R := by have := Re.out; have := bel_5.size; omega
      have ltYR : Y < R := by have := Re.out; have := rrv2.lt; omega
      clear hv3 nv3 Re
      have X_6 : Row v3 X 23 (u8s leaf) := X_5.old hbv3
      have Y_6 : Row v3 Y 28 (dgC L) := rrv2.old hbv3
      have bel_6 : Below w.heap.size w v3 := below_step bel_5 bel_5.size hbv3
      clear X_5 rrv2 bel_5 hbv3
      exact bodyPost_ret (result_row2 (p := 6) (u := 7) (ty := 23) (t := 23) (by kernel_rfl) _ _ R (u8s zh) (.int .i64 1) rfl rfl (hy9.congr (allH zh_ok)) (szH zh_ok)) rfl ⟨by rw [HI.out, HE.out]; rfl, below_only bel_6 oy9 geR bel_6.size⟩
    · have d1 : decide (p < (0 : Int)) = false := decide_eq_false hn
      have d2 : decide ((15 : Int) < p) = true := decide_eq_true (by omega)
      clear hk hk1 h4 kl hin hn
      go_enter Tryd.func9, Tryd.ntmps9
      go_wp2_with (first
        | ((with_reducible refine at_slot 4 ?_); (refine arm_box (o := ⟨some 4, _, _, _, _, _⟩) rfl _ _ rfl (u8s leaf) rfl ?_); intro X v1 Xe hv1 nv1; try simp only [Act.put, List.setIfInBounds_toArray, List.set_cons_zero, List.set_cons_succ])
        | ((with_reducible refine at_slot 5 ?_); (refine arm_box (o := ⟨some 5, _, _, _, _, _⟩) rfl _ _ rfl (dgC L) rfl ?_); intro Y v2 Ye hv2 nv2; try simp only [Act.put, List.setIfInBounds_toArray, List.set_cons_zero, List.set_cons_succ])
        | ((with_reducible refine at_slot 6 ?_); (refine arm_alloc (o := ⟨some 6, _, _, _, _, _⟩) rfl _ rfl (u8s zh) zH ?_); intro R v3 Re hv3 nv3; try simp only [Act.put, List.setIfInBounds_toArray, List.set_cons_zero, List.set_cons_succ])
        | ((with_reducible refine at_slot 16 ?_); (refine arm_build (o := ⟨some 16, _, _, _, _, _⟩) rfl _ _ rfl (u8s zh) (by kernel_rfl) ?_); try simp only [Act.put, List.setIfInBounds_toArray, List.set_cons_zero, List.set_cons_succ])
        | ((with_reducible refine arm_store (o := ⟨none, _, _, _, _, _⟩) rfl _ _ _ rfl R 0 rfl (u8s zh) rfl _ _ (hv3) (fitH zh_ok) (u8s_one _) (szH zh_ok) ?_); intro y9 hy9 oy9 sy9; try simp only [Act.put, List.setIfInBounds_toArray, List.set_cons_zero, List.set_cons_succ]))
      have hbv1 := nv1.below
      have rrv1 : Row v1 X 23 (u8s leaf) := hv1
      have hbv2 := nv2.below
      have rrv2 : Row v2 Y 28 (dgC L) := hv2
      have hbv3 := nv3.below
      have rrv3 : Row v3 R 23 (u8s zh) := hv3
      have geX : w.heap.size ≤ X := by have := Xe.out; omega
      clear hv1 nv1 Xe
      have bel_4 : Below w.heap.size w v1 := hbv1
      clear hbv1
      have geY : w.heap.size ≤ Y := by have := Ye.out; have := bel_4.size; omega
      have ltXY : X < Y := by have := Ye.out; have := rrv1.lt; omega
      clear hv2 nv2 Ye
      have X_5 : Row v2 X 23 (u8s leaf) := rrv1.old hbv2
      have bel_5 : Below w.heap.size w v2 := below_step bel_4 bel_4.size hbv2
      clear rrv1 bel_4 hbv2
      have geR : w.heap.size ≤ R := by have := Re.out; have := bel_5.size; omega
      have ltYR : Y < R := by have := Re.out; have := rrv2.lt; omega
      clear hv3 nv3 Re
      have X_6 : Row v3 X 23 (u8s leaf) := X_5.old hbv3
      have Y_6 : Row v3 Y 28 (dgC L) := rrv2.old hbv3
      have bel_6 : Below w.heap.size w v3 := below_step bel_5 bel_5.size hbv3
      clear X_5 rrv2 bel_5 hbv3
      exact bodyPost_ret (result_row2 (p := 6) (u := 7) (ty := 23) (t := 23) (by kernel_rfl) _ _ R (u8s zh) (.int .i64 1) rfl rfl (hy9.congr (allH zh_ok)) (szH zh_ok)) rfl ⟨by rw [HI.out, HE.out]; rfl, below_only bel_6 oy9 geR bel_6.size⟩
set_option maxHeartbeats 4000000 in
set_option maxRecDepth 100000 in
theorem rcheck_any (root : List Nat) (p : Int) (a : Acct) (L : List (List Nat)) (w : World) (kr : H32 root) (ka : a.Ok) (h4 : P4 L) (hk : w.rangeAt 0 0 (u32s ks)) :
    Calls Tryd.prog 16 #[.agg (u8s root).toArray, .int .i64 p, .agg (acs a).toArray, .agg (dgC L).toArray] w fun e w' => e = .returned (.int .i64 (chkE root p a L : Int)) ∧ Below w.heap.size w w' := by
  have hk1 : 0 < w.heap.size := range_lt hk (by simp [u32s, ks])
  have HKW : Hid (∀ w', Below w.heap.size w w' → w'.rangeAt 0 0 (u32s ks)) := Lib.hid fun w' hb => range_block hk (hb.block _ hk1)
  have KA := Lib.hid (sz_racc a); have SP := Lib.hid (sz_rpath h4.ok h4.len)
  have KR := Lib.hid kr
  by_cases hn : NRt a.nm
  · have CH : Hid (∀ w0, w0.rangeAt 0 0 (u32s ks) → Calls Tryd.prog 33 #[.agg (acs a).toArray] w0 fun e w' => e = .returned (.tuple #[.agg (u8s (digA a)).toArray, .int .i64 0]) ∧ Below w0.heap.size w0 w') := Lib.hid fun w0 h => (rhash_any a w0 ka h).mono fun e w' h => ⟨by
      have h3 := h.ret
      rw [show ansH a = digA a from if_pos hn, show ansE a = 0 from if_pos hn] at h3
      exact h3, h.bel⟩
    have KD := Lib.hid (digA_ok a)
    have KE := Lib.hid (leadI_ok (p := p) (L := L) (digA_ok a))
    have HR0 : Hid (chkE root p a L = if pathE p = 0 then (if leadI p L (digA a) = root then 0 else 13) else 1) := Lib.hid (by unfold chkE endE endD; rw [if_pos hn, if_pos hn])
    obtain ⟨da, hda⟩ : ∃ d, d = digA a := ⟨_, rfl⟩
    obtain ⟨dl, hdl⟩ : ∃ d, d = leadI p L (digA a) := ⟨_, rfl⟩
    obtain ⟨ee, hee⟩ : ∃ d, d = pathE p := ⟨_, rfl⟩
    have CL : Hid (∀ w0, w0.rangeAt 0 0 (u32s ks) → Calls Tryd.prog 9 #[.int .i64 p, .agg (u8s (digA a)).toArray, .agg (dgC L).toArray] w0 fun e w' => e = .returned (.tuple #[.agg (u8s dl).toArray, .int .i64 (ee : Int)]) ∧ Below w0.heap.size w0 w') := Lib.hid fun w0 h => (rlead_any p L (digA a) w0 h4 (digA_ok a) h).mono fun e w' h => ⟨by rw [hdl, hee]; exact h.ret, h.bel⟩
    have E1 : ee = 0 ∨ ee = 1 := by rw [hee]; unfold pathE; split <;> simp
    rw [← hda] at CH KD CL
    rw [← hdl] at KE HR0
    rw [← hee] at HR0
    clear hk hk1 kr ka h4 hn hda hdl hee
    rcases E1 with rfl | rfl
    · by_cases hd : dl = root
      · have HR : Hid (chkE root p a L = 0) := Lib.hid (HR0.out.trans (by rw [if_pos rfl, if_pos hd]))
        have HQ := Lib.hid hd
        clear HR0 hd
        go_enter Tryd.func16, Tryd.ntmps16
        go_wp2_with (first
          | ((with_reducible refine at_slot 4 ?_); (refine arm_box (o := ⟨some 4, _, _, _, _, _⟩) rfl _ _ rfl (u8s root) rfl ?_); intro Q v1 Qe hv1 nv1; try simp only [Act.put, List.setIfInBounds_toArray, List.set_cons_zero, List.set_cons_succ])
          | ((with_reducible refine at_slot 6 ?_); (refine arm_box (o := ⟨some 6, _, _, _, _, _⟩) rfl _ _ rfl (acs a) rfl ?_); intro A v2 Ae hv2 nv2; try simp only [Act.put, List.setIfInBounds_toArray, List.set_cons_zero, List.set_cons_succ])
          | ((with_reducible refine at_slot 7 ?_); (refine arm_box (o := ⟨some 7, _, _, _, _, _⟩) rfl _ _ rfl (dgC L) rfl ?_); intro Y v3 Ye hv3 nv3; try simp only [Act.put, List.setIfInBounds_toArray, List.set_cons_zero, List.set_cons_succ])
          | ((with_reducible refine at_slot 13 ?_); (refine pause ?_); try simp only [Act.put, List.setIfInBounds_toArray, List.set_cons_zero, List.set_cons_succ]))
        have hbv1 := nv1.below
        have rrv1 : Row v1 Q 23 (u8s root) := hv1
        have hbv2 := nv2.below
        have rrv2 : Row v2 A 45 (acs a) := hv2
        have hbv3 := nv3.below
        have rrv3 : Row v3 Y 28 (dgC L) := hv3
        have geQ : w.heap.size ≤ Q := by have := Qe.out; omega
        clear hv1 nv1 Qe
        have bel_4 : Below w.heap.size w v1 := hbv1
        clear hbv1
        have geA : w.heap.size ≤ A := by have := Ae.out; have := bel_4.size; omega
        have ltQA : Q < A := by have := Ae.out; have := rrv1.lt; omega
        clear hv2 nv2 Ae
        have Q_5 : Row v2 Q 23 (u8s root) := rrv1.old hbv2
        have bel_5 : Below w.heap.size w v2 := below_step bel_4 bel_4.size hbv2
        clear rrv1 bel_4 hbv2
        have geY : w.heap.size ≤ Y := by have := Ye.out; have := bel_5.size; omega
        have ltAY : A < Y := by have := Ye.out; have := rrv2.lt; omega
        clear hv3 nv3 Ye
        have Q_6 : Row v3 Q 23 (u8s root) := Q_5.old hbv3
        have A_6 : Row v3 A 45 (acs a) := rrv2.old hbv3
        have bel_6 : Below w.heap.size w v3 := below_step bel_5 bel_5.size hbv3
        clear Q_5 rrv2 bel_5 hbv3
        refine go_on ?_
        go_wp2_with (first
          | ((with_reducible refine at_slot 13 ?_); (refine arm_load (o := ⟨some 13, _, _, _, _, _⟩) rfl _ _ rfl A 0 rfl (acs a) ((Has.refl _).range A_6) KA.out ?_); try simp only [Act.put, List.setIfInBounds_toArray, List.set_cons_zero, List.set_cons_succ]))
        refine (CH.out _ (HKW.out _ bel_6)).mono ?_
        rintro e y7 ⟨rfl, hB⟩
        have Q_8 : Row y7 Q 23 (u8s root) := Q_6.old hB
        have A_8 : Row y7 A 45 (acs a) := A_6.old hB
        have Y_8 : Row y7 Y 28 (dgC L) := rrv3.old hB
        have bel_8 : Below w.heap.size w y7 := below_step bel_6 bel_6.size hB
        clear Q_6 A_6 rrv3 bel_6 hB
        go_wp2_with (first
          | ((with_reducible refine at_slot 9 ?_); (refine arm_alloc (o := ⟨some 9, _, _, _, _, _⟩) rfl _ rfl (u8s zh) zH ?_); intro D v9a De hDa nD; try simp only [Act.put, List.setIfInBounds_toArray, List.set_cons_zero, List.set_cons_succ])
          | ((with_reducible refine arm_store (o := ⟨none, _, _, _, _, _⟩) rfl _ _ _ rfl D 0 rfl (u8s da) rfl _ _ hDa (fitH KD.out) (u8s_one _) (szH KD.out) ?_); intro v9 hDb oD sD; try simp only [Act.put, List.setIfInBounds_toArray, List.set_cons_zero, List.set_cons_succ])
          | ((with_reducible refine at_slot 18 ?_); (refine arm_want (.bool false) 18 rfl (by kernel_rfl) (cmp_neq _ _ .i64 (by kernel_rfl) _ _ rfl .i64 (0) (0) rfl rfl false (by decide) _) ?_); try simp only [Act.put, List.setIfInBounds_toArray, List.set_cons_zero, List.set_cons_succ])
          | ((with_reducible refine at_slot 22 ?_); (refine arm_load (o := ⟨some 22, _, _, _, _, _⟩) rfl _ _ rfl D 0 rfl (u8s da) ((Has.refl _).range (hDb.congr (allH KD.out))) (szH KD.out) ?_); try simp only [Act.put, List.setIfInBounds_toArray, List.set_cons_zero, List.set_cons_succ])
          | ((with_reducible refine at_slot 23 ?_); (refine arm_load (o := ⟨some 23, _, _, _, _, _⟩) rfl _ _ rfl Y 0 rfl (dgC L) ((Has.refl _).range ((Y_8.old nD.below).only oD (by have := De.out; have := Y_8.lt; omega))) SP.out ?_); try simp only [Act.put, List.setIfInBounds_toArray, List.set_cons_zero, List.set_cons_succ]))
        have lD : y7.heap.size ≤ D := by have := De.out; omega
        have bD : Below y7.heap.size y7 v9 := below_only nD.below oD lD nD.below.size
        have rrD : Row v9 D 23 (u8s da) := hDb.congr (allH KD.out)
        have geD : w.heap.size ≤ D := Nat.le_trans bel_8.size lD
        clear hDa hDb nD oD sD De lD
        have Q_10 : Row v9 Q 23 (u8s root) := Q_8.old bD
        have A_10 : Row v9 A 45 (acs a) := A_8.old bD
        have Y_10 : Row v9 Y 28 (dgC L) := Y_8.old bD
        have bel_10 : Below w.heap.size w v9 := below_step bel_8 bel_8.size bD
        clear Q_8 A_8 Y_8 bel_8 bD
        refine (CL.out _ (HKW.out _ bel_10)).mono ?_
        rintro e y11 ⟨rfl, hB⟩
        have Q_12 : Row y11 Q 23 (u8s root) := Q_10.old hB
        have A_12 : Row y11 A 45 (acs a) := A_10.old hB
        have Y_12 : Row y11 Y 28 (dgC L) := Y_10.old hB
        have D_12 : Row y11 D 23 (u8s da) := rrD.old hB
        have bel_12 : Below w.heap.size w y11 := below_step bel_10 bel_10.size hB
        clear Q_10 A_10 Y_10 rrD bel_10 hB
        skip
        go_wp2_with (first
          | ((with_reducible refine at_slot 11 ?_); (refine arm_alloc (o := ⟨some 11, _, _, _, _, _⟩) rfl _ rfl (u8s zh) zH ?_); intro E v13a Ee hEa nE; try simp only [Act.put, List.setIfInBounds_toArray, List.set_cons_zero, List.set_cons_succ])
          | ((with_reducible refine arm_store (o := ⟨none, _, _, _, _, _⟩) rfl _ _ _ rfl E 0 rfl (u8s dl) rfl _ _ hEa (fitH KE.out) (u8s_one _) (szH KE.out) ?_); intro v13 hEb oE sE; try simp only [Act.put, List.setIfInBounds_toArray, List.set_cons_zero, List.set_cons_succ])
          | ((with_reducible refine at_slot 28 ?_); (refine arm_want (.bool false) 28 rfl (by kernel_rfl) (cmp_neq _ _ .i64 (by kernel_rfl) _ _ rfl .i64 (0) (0) rfl rfl false (by decide) _) ?_); try simp only [Act.put, List.setIfInBounds_toArray, List.set_cons_zero, List.set_cons_succ])
          | ((with_reducible refine at_slot 30 ?_); (refine arm_load (o := ⟨some 30, _, _, _, _, _⟩) rfl _ _ rfl E 0 rfl (u8s dl) ((Has.refl _).range (hEb.congr (allH KE.out))) (szH KE.out) ?_); try simp only [Act.put, List.setIfInBounds_toArray, List.set_cons_zero, List.set_cons_succ])
          | ((with_reducible refine at_slot 31 ?_); (refine arm_load (o := ⟨some 31, _, _, _, _, _⟩) rfl _ _ rfl Q 0 rfl (u8s root) ((Has.refl _).range ((Q_12.old nE.below).only oE (by have := Ee.out; have := Q_12.lt; omega))) (szH KR.out) ?_); try simp only [Act.put, List.setIfInBounds_toArray, List.set_cons_zero, List.set_cons_succ])
          | ((with_reducible refine at_slot 32 ?_); (refine arm_want (.bool false) 32 rfl (by kernel_rfl) (run_op_neqD KE.out KR.out _ _ _ rfl rfl rfl true (iff_of_true rfl HQ.out) _) ?_); try simp only [Act.put, List.setIfInBounds_toArray, List.set_cons_zero, List.set_cons_succ]))
        have lE : y11.heap.size ≤ E := by have := Ee.out; omega
        have bE : Below y11.heap.size y11 v13 := below_only nE.below oE lE nE.below.size
        have rrE : Row v13 E 23 (u8s dl) := hEb.congr (allH KE.out)
        have geE : w.heap.size ≤ E := Nat.le_trans bel_12.size lE
        clear hEa hEb nE oE sE Ee lE
        have Q_14 : Row v13 Q 23 (u8s root) := Q_12.old bE
        have A_14 : Row v13 A 45 (acs a) := A_12.old bE
        have Y_14 : Row v13 Y 28 (dgC L) := Y_12.old bE
        have D_14 : Row v13 D 23 (u8s da) := D_12.old bE
        have bel_14 : Below w.heap.size w v13 := below_step bel_12 bel_12.size bE
        clear Q_12 A_12 Y_12 D_12 bel_12 bE
        go_ret
        exact ⟨by rw [HR.out]; rfl, bel_14⟩
      · have HR : Hid (chkE root p a L = 13) := Lib.hid (HR0.out.trans (by rw [if_pos rfl, if_neg hd]))
        have HQ := Lib.hid hd
        clear HR0 hd
        go_enter Tryd.func16, Tryd.ntmps16
        go_wp2_with (first
          | ((with_reducible refine at_slot 4 ?_); (refine arm_box (o := ⟨some 4, _, _, _, _, _⟩) rfl _ _ rfl (u8s root) rfl ?_); intro Q v1 Qe hv1 nv1; try simp only [Act.put, List.setIfInBounds_toArray, List.set_cons_zero, List.set_cons_succ])
          | ((with_reducible refine at_slot 6 ?_); (refine arm_box (o := ⟨some 6, _, _, _, _, _⟩) rfl _ _ rfl (acs a) rfl ?_); intro A v2 Ae hv2 nv2; try simp only [Act.put, List.setIfInBounds_toArray, List.set_cons_zero, List.set_cons_succ])
          | ((with_reducible refine at_slot 7 ?_); (refine arm_box (o := ⟨some 7, _, _, _, _, _⟩) rfl _ _ rfl (dgC L) rfl ?_); intro Y v3 Ye hv3 nv3; try simp only [Act.put, List.setIfInBounds_toArray, List.set_cons_zero, List.set_cons_succ])
          | ((with_reducible refine at_slot 13 ?_); (refine pause ?_); try simp only [Act.put, List.setIfInBounds_toArray, List.set_cons_zero, List.set_cons_succ]))
        have hbv1 := nv1.below
        have rrv1 : Row v1 Q 23 (u8s root) := hv1
        have hbv2 := nv2.below
        have rrv2 : Row v2 A 45 (acs a) := hv2
        have hbv3 := nv3.below
        have rrv3 : Row v3 Y 28 (dgC L) := hv3
        have geQ : w.heap.size ≤ Q := by have := Qe.out; omega
        clear hv1 nv1 Qe
        have bel_4 : Below w.heap.size w v1 := hbv1
        clear hbv1
        have geA : w.heap.size ≤ A := by have := Ae.out; have := bel_4.size; omega
        have ltQA : Q < A := by have := Ae.out; have := rrv1.lt; omega
        clear hv2 nv2 Ae
        have Q_5 : Row v2 Q 23 (u8s root) := rrv1.old hbv2
        have bel_5 : Below w.heap.size w v2 := below_step bel_4 bel_4.size hbv2
        clear rrv1 bel_4 hbv2
        have geY : w.heap.size ≤ Y := by have := Ye.out; have := bel_5.size; omega
        have ltAY : A < Y := by have := Ye.out; have := rrv2.lt; omega
        clear hv3 nv3 Ye
        have Q_6 : Row v3 Q 23 (u8s root) := Q_5.old hbv3
        have A_6 : Row v3 A 45 (acs a) := rrv2.old hbv3
        have bel_6 : Below w.heap.size w v3 := below_step bel_5 bel_5.size hbv3
        clear Q_5 rrv2 bel_5 hbv3
        refine go_on ?_
        go_wp2_with (first
          | ((with_reducible refine at_slot 13 ?_); (refine arm_load (o := ⟨some 13, _, _, _, _, _⟩) rfl _ _ rfl A 0 rfl (acs a) ((Has.refl _).range A_6) KA.out ?_); try simp only [Act.put, List.setIfInBounds_toArray, List.set_cons_zero, List.set_cons_succ]))
        refine (CH.out _ (HKW.out _ bel_6)).mono ?_
        rintro e y7 ⟨rfl, hB⟩
        have Q_8 : Row y7 Q 23 (u8s root) := Q_6.old hB
        have A_8 : Row y7 A 45 (acs a) := A_6.old hB
        have Y_8 : Row y7 Y 28 (dgC L) := rrv3.old hB
        have bel_8 : Below w.heap.size w y7 := below_step bel_6 bel_6.size hB
        clear Q_6 A_6 rrv3 bel_6 hB
        go_wp2_with (first
          | ((with_reducible refine at_slot 9 ?_); (refine arm_alloc (o := ⟨some 9, _, _, _, _, _⟩) rfl _ rfl (u8s zh) zH ?_); intro D v9a De hDa nD; try simp only [Act.put, List.setIfInBounds_toArray, List.set_cons_zero, List.set_cons_succ])
          | ((with_reducible refine arm_store (o := ⟨none, _, _, _, _, _⟩) rfl _ _ _ rfl D 0 rfl (u8s da) rfl _ _ hDa (fitH KD.out) (u8s_one _) (szH KD.out) ?_); intro v9 hDb oD sD; try simp only [Act.put, List.setIfInBounds_toArray, List.set_cons_zero, List.set_cons_succ])
          | ((with_reducible refine at_slot 18 ?_); (refine arm_want (.bool false) 18 rfl (by kernel_rfl) (cmp_neq _ _ .i64 (by kernel_rfl) _ _ rfl .i64 (0) (0) rfl rfl false (by decide) _) ?_); try simp only [Act.put, List.setIfInBounds_toArray, List.set_cons_zero, List.set_cons_succ])
          | ((with_reducible refine at_slot 22 ?_); (refine arm_load (o := ⟨some 22, _, _, _, _, _⟩) rfl _ _ rfl D 0 rfl (u8s da) ((Has.refl _).range (hDb.congr (allH KD.out))) (szH KD.out) ?_); try simp only [Act.put, List.setIfInBounds_toArray, List.set_cons_zero, List.set_cons_succ])
          | ((with_reducible refine at_slot 23 ?_); (refine arm_load (o := ⟨some 23, _, _, _, _, _⟩) rfl _ _ rfl Y 0 rfl (dgC L) ((Has.refl _).range ((Y_8.old nD.below).only oD (by have := De.out; have := Y_8.lt; omega))) SP.out ?_); try simp only [Act.put, List.setIfInBounds_toArray, List.set_cons_zero, List.set_cons_succ]))
        have lD : y7.heap.size ≤ D := by have := De.out; omega
        have bD : Below y7.heap.size y7 v9 := below_only nD.below oD lD nD.below.size
        have rrD : Row v9 D 23 (u8s da) := hDb.congr (allH KD.out)
        have geD : w.heap.size ≤ D := Nat.le_trans bel_8.size lD
        clear hDa hDb nD oD sD De lD
        have Q_10 : Row v9 Q 23 (u8s root) := Q_8.old bD
        have A_10 : Row v9 A 45 (acs a) := A_8.old bD
        have Y_10 : Row v9 Y 28 (dgC L) := Y_8.old bD
        have bel_10 : Below w.heap.size w v9 := below_step bel_8 bel_8.size bD
        clear Q_8 A_8 Y_8 bel_8 bD
        refine (CL.out _ (HKW.out _ bel_10)).mono ?_
        rintro e y11 ⟨rfl, hB⟩
        have Q_12 : Row y11 Q 23 (u8s root) := Q_10.old hB
        have A_12 : Row y11 A 45 (acs a) := A_10.old hB
        have Y_12 : Row y11 Y 28 (dgC L) := Y_10.old hB
        have D_12 : Row y11 D 23 (u8s da) := rrD.old hB
        have bel_12 : Below w.heap.size w y11 := below_step bel_10 bel_10.size hB
        clear Q_10 A_10 Y_10 rrD bel_10 hB
        skip
        go_wp2_with (first
          | ((with_reducible refine at_slot 11 ?_); (refine arm_alloc (o := ⟨some 11, _, _, _, _, _⟩) rfl _ rfl (u8s zh) zH ?_); intro E v13a Ee hEa nE; try simp only [Act.put, List.setIfInBounds_toArray, List.set_cons_zero, List.set_cons_succ])
          | ((with_reducible refine arm_store (o := ⟨none, _, _, _, _, _⟩) rfl _ _ _ rfl E 0 rfl (u8s dl) rfl _ _ hEa (fitH KE.out) (u8s_one _) (szH KE.out) ?_); intro v13 hEb oE sE; try simp only [Act.put, List.setIfInBounds_toArray, List.set_cons_zero, List.set_cons_succ])
          | ((with_reducible refine at_slot 28 ?_); (refine arm_want (.bool false) 28 rfl (by kernel_rfl) (cmp_neq _ _ .i64 (by kernel_rfl) _ _ rfl .i64 (0) (0) rfl rfl false (by decide) _) ?_); try simp only [Act.put, List.setIfInBounds_toArray, List.set_cons_zero, List.set_cons_succ])
          | ((with_reducible refine at_slot 30 ?_); (refine arm_load (o := ⟨some 30, _, _, _, _, _⟩) rfl _ _ rfl E 0 rfl (u8s dl) ((Has.refl _).range (hEb.congr (allH KE.out))) (szH KE.out) ?_); try simp only [Act.put, List.setIfInBounds_toArray, List.set_cons_zero, List.set_cons_succ])
          | ((with_reducible refine at_slot 31 ?_); (refine arm_load (o := ⟨some 31, _, _, _, _, _⟩) rfl _ _ rfl Q 0 rfl (u8s root) ((Has.refl _).range ((Q_12.old nE.below).only oE (by have := Ee.out; have := Q_12.lt; omega))) (szH KR.out) ?_); try simp only [Act.put, List.setIfInBounds_toArray, List.set_cons_zero, List.set_cons_succ])
          | ((with_reducible refine at_slot 32 ?_); (refine arm_want (.bool true) 32 rfl (by kernel_rfl) (run_op_neqD KE.out KR.out _ _ _ rfl rfl rfl false (iff_of_false Bool.false_ne_true HQ.out) _) ?_); try simp only [Act.put, List.setIfInBounds_toArray, List.set_cons_zero, List.set_cons_succ]))
        have lE : y11.heap.size ≤ E := by have := Ee.out; omega
        have bE : Below y11.heap.size y11 v13 := below_only nE.below oE lE nE.below.size
        have rrE : Row v13 E 23 (u8s dl) := hEb.congr (allH KE.out)
        have geE : w.heap.size ≤ E := Nat.le_trans bel_12.size lE
        clear hEa hEb nE oE sE Ee lE
        have Q_14 : Row v13 Q 23 (u8s root) := Q_12.old bE
        have A_14 : Row v13 A 45 (acs a) := A_12.old bE
        have Y_14 : Row v13 Y 28 (dgC L) := Y_12.old bE
        have D_14 : Row v13 D 23 (u8s da) := D_12.old bE
        have bel_14 : Below w.heap.size w v13 := below_step bel_12 bel_12.size bE
        clear Q_12 A_12 Y_12 D_12 bel_12 bE
        go_ret
        exact ⟨by rw [HR.out]; rfl, bel_14⟩
    · have HR : Hid (chkE root p a L = 1) := Lib.hid (HR0.out.trans (if_neg (by omega)))
      clear HR0
      go_enter Tryd.func16, Tryd.ntmps16
      go_wp2_with (first
        | ((with_reducible refine at_slot 4 ?_); (refine arm_box (o := ⟨some 4, _, _, _, _, _⟩) rfl _ _ rfl (u8s root) rfl ?_); intro Q v1 Qe hv1 nv1; try simp only [Act.put, List.setIfInBounds_toArray, List.set_cons_zero, List.set_cons_succ])
        | ((with_reducible refine at_slot 6 ?_); (refine arm_box (o := ⟨some 6, _, _, _, _, _⟩) rfl _ _ rfl (acs a) rfl ?_); intro A v2 Ae hv2 nv2; try simp only [Act.put, List.setIfInBounds_toArray, List.set_cons_zero, List.set_cons_succ])
        | ((with_reducible refine at_slot 7 ?_); (refine arm_box (o := ⟨some 7, _, _, _, _, _⟩) rfl _ _ rfl (dgC L) rfl ?_); intro Y v3 Ye hv3 nv3; try simp only [Act.put, List.setIfInBounds_toArray, List.set_cons_zero, List.set_cons_succ])
        | ((with_reducible refine at_slot 13 ?_); (refine pause ?_); try simp only [Act.put, List.setIfInBounds_toArray, List.set_cons_zero, List.set_cons_succ]))
      have hbv1 := nv1.below
      have rrv1 : Row v1 Q 23 (u8s root) := hv1
      have hbv2 := nv2.below
      have rrv2 : Row v2 A 45 (acs a) := hv2
      have hbv3 := nv3.below
      have rrv3 : Row v3 Y 28 (dgC L) := hv3
      have geQ : w.heap.size ≤ Q := by have := Qe.out; omega
      clear hv1 nv1 Qe
      have bel_4 : Below w.heap.size w v1 := hbv1
      clear hbv1
      have geA : w.heap.size ≤ A := by have := Ae.out; have := bel_4.size; omega
      have ltQA : Q < A := by have := Ae.out; have := rrv1.lt; omega
      clear hv2 nv2 Ae
      have Q_5 : Row v2 Q 23 (u8s root) := rrv1.old hbv2
      have bel_5 : Below w.heap.size w v2 := below_step bel_4 bel_4.size hbv2
      clear rrv1 bel_4 hbv2
      have geY : w.heap.size ≤ Y := by have := Ye.out; have := bel_5.size; omega
      have ltAY : A < Y := by have := Ye.out; have := rrv2.lt; omega
      clear hv3 nv3 Ye
      have Q_6 : Row v3 Q 23 (u8s root) := Q_5.old hbv3
      have A_6 : Row v3 A 45 (acs a) := rrv2.old hbv3
      have bel_6 : Below w.heap.size w v3 := below_step bel_5 bel_5.size hbv3
      clear Q_5 rrv2 bel_5 hbv3
      refine go_on ?_
      go_wp2_with (first
        | ((with_reducible refine at_slot 13 ?_); (refine arm_load (o := ⟨some 13, _, _, _, _, _⟩) rfl _ _ rfl A 0 rfl (acs a) ((Has.refl _).range A_6) KA.out ?_); try simp only [Act.put, List.setIfInBounds_toArray, List.set_cons_zero, List.set_cons_succ]))
      refine (CH.out _ (HKW.out _ bel_6)).mono ?_
      rintro e y7 ⟨rfl, hB⟩
      have Q_8 : Row y7 Q 23 (u8s root) := Q_6.old hB
      have A_8 : Row y7 A 45 (acs a) := A_6.old hB
      have Y_8 : Row y7 Y 28 (dgC L) := rrv3.old hB
      have bel_8 : Below w.heap.size w y7 := below_step bel_6 bel_6.size hB
      clear Q_6 A_6 rrv3 bel_6 hB
      go_wp2_with (first
        | ((with_reducible refine at_slot 9 ?_); (refine arm_alloc (o := ⟨some 9, _, _, _, _, _⟩) rfl _ rfl (u8s zh) zH ?_); intro D v9a De hDa nD; try simp only [Act.put, List.setIfInBounds_toArray, List.set_cons_zero, List.set_cons_succ])
        | ((with_reducible refine arm_store (o := ⟨none, _, _, _, _, _⟩) rfl _ _ _ rfl D 0 rfl (u8s da) rfl _ _ hDa (fitH KD.out) (u8s_one _) (szH KD.out) ?_); intro v9 hDb oD sD; try simp only [Act.put, List.setIfInBounds_toArray, List.set_cons_zero, List.set_cons_succ])
        | ((with_reducible refine at_slot 18 ?_); (refine arm_want (.bool false) 18 rfl (by kernel_rfl) (cmp_neq _ _ .i64 (by kernel_rfl) _ _ rfl .i64 (0) (0) rfl rfl false (by decide) _) ?_); try simp only [Act.put, List.setIfInBounds_toArray, List.set_cons_zero, List.set_cons_succ])
        | ((with_reducible refine at_slot 22 ?_); (refine arm_load (o := ⟨some 22, _, _, _, _, _⟩) rfl _ _ rfl D 0 rfl (u8s da) ((Has.refl _).range (hDb.congr (allH KD.out))) (szH KD.out) ?_); try simp only [Act.put, List.setIfInBounds_toArray, List.set_cons_zero, List.set_cons_succ])
        | ((with_reducible refine at_slot 23 ?_); (refine arm_load (o := ⟨some 23, _, _, _, _, _⟩) rfl _ _ rfl Y 0 rfl (dgC L) ((Has.refl _).range ((Y_8.old nD.below).only oD (by have := De.out; have := Y_8.lt; omega))) SP.out ?_); try simp only [Act.put, List.setIfInBounds_toArray, List.set_cons_zero, List.set_cons_succ]))
      have lD : y7.heap.size ≤ D := by have := De.out; omega
      have bD : Below y7.heap.size y7 v9 := below_only nD.below oD lD nD.below.size
      have rrD : Row v9 D 23 (u8s da) := hDb.congr (allH KD.out)
      have geD : w.heap.size ≤ D := Nat.le_trans bel_8.size lD
      clear hDa hDb nD oD sD De lD
      have Q_10 : Row v9 Q 23 (u8s root) := Q_8.old bD
      have A_10 : Row v9 A 45 (acs a) := A_8.old bD
      have Y_10 : Row v9 Y 28 (dgC L) := Y_8.old bD
      have bel_10 : Below w.heap.size w v9 := below_step bel_8 bel_8.size bD
      clear Q_8 A_8 Y_8 bel_8 bD
      refine (CL.out _ (HKW.out _ bel_10)).mono ?_
      rintro e y11 ⟨rfl, hB⟩
      have Q_12 : Row y11 Q 23 (u8s root) := Q_10.old hB
      have A_12 : Row y11 A 45 (acs a) := A_10.old hB
      have Y_12 : Row y11 Y 28 (dgC L) := Y_10.old hB
      have D_12 : Row y11 D 23 (u8s da) := rrD.old hB
      have bel_12 : Below w.heap.size w y11 := below_step bel_10 bel_10.size hB
      clear Q_10 A_10 Y_10 rrD bel_10 hB
      skip
      go_wp2_with (first
        | ((with_reducible refine at_slot 11 ?_); (refine arm_alloc (o := ⟨some 11, _, _, _, _, _⟩) rfl _ rfl (u8s zh) zH ?_); intro E v13a Ee hEa nE; try simp only [Act.put, List.setIfInBounds_toArray, List.set_cons_zero, List.set_cons_succ])
        | ((with_reducible refine arm_store (o := ⟨none, _, _, _, _, _⟩) rfl _ _ _ rfl E 0 rfl (u8s dl) rfl _ _ hEa (fitH KE.out) (u8s_one _) (szH KE.out) ?_); intro v13 hEb oE sE; try simp only [Act.put, List.setIfInBounds_toArray, List.set_cons_zero, List.set_cons_succ])
        | ((with_reducible refine at_slot 28 ?_); (refine arm_want (.bool true) 28 rfl (by kernel_rfl) (cmp_neq _ _ .i64 (by kernel_rfl) _ _ rfl .i64 (1) (0) rfl rfl true (by decide) _) ?_); try simp only [Act.put, List.setIfInBounds_toArray, List.set_cons_zero, List.set_cons_succ]))
      have lE : y11.heap.size ≤ E := by have := Ee.out; omega
      have bE : Below y11.heap.size y11 v13 := below_only nE.below oE lE nE.below.size
      have rrE : Row v13 E 23 (u8s dl) := hEb.congr (allH KE.out)
      have geE : w.heap.size ≤ E := Nat.le_trans bel_12.size lE
      clear hEa hEb nE oE sE Ee lE
      have Q_14 : Row v13 Q 23 (u8s root) := Q_12.old bE
      have A_14 : Row v13 A 45 (acs a) := A_12.old bE
      have Y_14 : Row v13 Y 28 (dgC L) := Y_12.old bE
      have D_14 : Row v13 D 23 (u8s da) := D_12.old bE
      have bel_14 : Below w.heap.size w v13 := below_step bel_12 bel_12.size bE
      clear Q_12 A_12 Y_12 D_12 bel_12 bE
      go_ret
      exact ⟨by rw [HR.out]; rfl, bel_14⟩
  · have CH : Hid (∀ w0, w0.rangeAt 0 0 (u32s ks) → Calls Tryd.prog 33 #[.agg (acs a).toArray] w0 fun e w' => e = .returned (.tuple #[.agg (u8s zh).toArray, .int .i64 1]) ∧ Below w0.heap.size w0 w') := Lib.hid fun w0 h => (rhash_any a w0 ka h).mono fun e w' h => ⟨by
      have h3 := h.ret
      rw [show ansH a = zh from if_neg hn, show ansE a = 1 from if_neg hn] at h3
      exact h3, h.bel⟩
    have HR : Hid (chkE root p a L = 1) := Lib.hid (by unfold chkE endE; rw [if_neg hn, if_neg (by omega)])
    clear hk hk1 kr ka h4 hn
    go_enter Tryd.func16, Tryd.ntmps16
    go_wp2_with (first
      | ((with_reducible refine at_slot 4 ?_); (refine arm_box (o := ⟨some 4, _, _, _, _, _⟩) rfl _ _ rfl (u8s root) rfl ?_); intro Q v1 Qe hv1 nv1; try simp only [Act.put, List.setIfInBounds_toArray, List.set_cons_zero, List.set_cons_succ])
      | ((with_reducible refine at_slot 6 ?_); (refine arm_box (o := ⟨some 6, _, _, _, _, _⟩) rfl _ _ rfl (acs a) rfl ?_); intro A v2 Ae hv2 nv2; try simp only [Act.put, List.setIfInBounds_toArray, List.set_cons_zero, List.set_cons_succ])
      | ((with_reducible refine at_slot 7 ?_); (refine arm_box (o := ⟨some 7, _, _, _, _, _⟩) rfl _ _ rfl (dgC L) rfl ?_); intro Y v3 Ye hv3 nv3; try simp only [Act.put, List.setIfInBounds_toArray, List.set_cons_zero, List.set_cons_succ])
      | ((with_reducible refine at_slot 13 ?_); (refine pause ?_); try simp only [Act.put, List.setIfInBounds_toArray, List.set_cons_zero, List.set_cons_succ]))
    have hbv1 := nv1.below
    have rrv1 : Row v1 Q 23 (u8s root) := hv1
    have hbv2 := nv2.below
    have rrv2 : Row v2 A 45 (acs a) := hv2
    have hbv3 := nv3.below
    have rrv3 : Row v3 Y 28 (dgC L) := hv3
    have geQ : w.heap.size ≤ Q := by have := Qe.out; omega
    clear hv1 nv1 Qe
    have bel_4 : Below w.heap.size w v1 := hbv1
    clear hbv1
    have geA : w.heap.size ≤ A := by have := Ae.out; have := bel_4.size; omega
    have ltQA : Q < A := by have := Ae.out; have := rrv1.lt; omega
    clear hv2 nv2 Ae
    have Q_5 : Row v2 Q 23 (u8s root) := rrv1.old hbv2
    have bel_5 : Below w.heap.size w v2 := below_step bel_4 bel_4.size hbv2
    clear rrv1 bel_4 hbv2
    have geY : w.heap.size ≤ Y := by have := Ye.out; have := bel_5.size; omega
    have ltAY : A < Y := by have := Ye.out; have := rrv2.lt; omega
    clear hv3 nv3 Ye
    have Q_6 : Row v3 Q 23 (u8s root) := Q_5.old hbv3
    have A_6 : Row v3 A 45 (acs a) := rrv2.old hbv3
    have bel_6 : Below w.heap.size w v3 := below_step bel_5 bel_5.size hbv3
    clear Q_5 rrv2 bel_5 hbv3
    refine go_on ?_
    go_wp2_with (first
      | ((with_reducible refine at_slot 13 ?_); (refine arm_load (o := ⟨some 13, _, _, _, _, _⟩) rfl _ _ rfl A 0 rfl (acs a) ((Has.refl _).range A_6) KA.out ?_); try simp only [Act.put, List.setIfInBounds_toArray, List.set_cons_zero, List.set_cons_succ]))
    refine (CH.out _ (HKW.out _ bel_6)).mono ?_
    rintro e y7 ⟨rfl, hB⟩
    have Q_8 : Row y7 Q 23 (u8s root) := Q_6.old hB
    have A_8 : Row y7 A 45 (acs a) := A_6.old hB
    have Y_8 : Row y7 Y 28 (dgC L) := rrv3.old hB
    have bel_8 : Below w.heap.size w y7 := below_step bel_6 bel_6.size hB
    clear Q_6 A_6 rrv3 bel_6 hB
    go_wp2_with (first
      | ((with_reducible refine at_slot 9 ?_); (refine arm_alloc (o := ⟨some 9, _, _, _, _, _⟩) rfl _ rfl (u8s zh) zH ?_); intro D v9a De hDa nD; try simp only [Act.put, List.setIfInBounds_toArray, List.set_cons_zero, List.set_cons_succ])
      | ((with_reducible refine arm_store (o := ⟨none, _, _, _, _, _⟩) rfl _ _ _ rfl D 0 rfl (u8s zh) rfl _ _ hDa (fitH zh_ok) (u8s_one _) (szH zh_ok) ?_); intro v9 hDb oD sD; try simp only [Act.put, List.setIfInBounds_toArray, List.set_cons_zero, List.set_cons_succ])
      | ((with_reducible refine at_slot 18 ?_); (refine arm_want (.bool true) 18 rfl (by kernel_rfl) (cmp_neq _ _ .i64 (by kernel_rfl) _ _ rfl .i64 (1) (0) rfl rfl true (by decide) _) ?_); try simp only [Act.put, List.setIfInBounds_toArray, List.set_cons_zero, List.set_cons_succ]))
    have lD : y7.heap.size ≤ D := by have := De.out; omega
    have bD : Below y7.heap.size y7 v9 := below_only nD.below oD lD nD.below.size
    have rrD : Row v9 D 23 (u8s zh) := hDb.congr (allH zh_ok)
    have geD : w.heap.size ≤ D := Nat.le_trans bel_8.size lD
    clear hDa hDb nD oD sD De lD
    have Q_10 : Row v9 Q 23 (u8s root) := Q_8.old bD
    have A_10 : Row v9 A 45 (acs a) := A_8.old bD
    have Y_10 : Row v9 Y 28 (dgC L) := Y_8.old bD
    have bel_10 : Below w.heap.size w v9 := below_step bel_8 bel_8.size bD
    clear Q_8 A_8 Y_8 bel_8 bD
    go_ret
    exact ⟨by rw [HR.out]; rfl, bel_10⟩
end Go.Proofs.YtaihhbiocolhcaaDoor.Pf
