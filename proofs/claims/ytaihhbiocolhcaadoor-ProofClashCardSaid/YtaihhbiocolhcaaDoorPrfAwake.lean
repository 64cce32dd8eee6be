/-
  The contracts of layer 16's awake (the calls whose answers the document fixes answer so: it returns true) and own. Over this seat's translation.
-/
import Derived.Test.YtaihhbiocolhcaaDoorPrfRClash
import Derived.Test.YtaihhbiocolhcaaDoorPrfAwk
import Derived.Test.YtaihhbiocolhcaaDoorTreAll
import Derived.Test.YtaihhbiocolhcaaDoorSlisAll
namespace Go.Proofs.YtaihhbiocolhcaaDoor.Pf
open Go.ChangeShapes Go.WideShapes Go.ChangeAt Go.RowKit Go.Proofs.YtaihhbiocolhcaaDoor.Mem Go.Proofs.YtaihhbiocolhcaaDoor.Bt Go.Proofs.YtaihhbiocolhcaaDoor.Wi Go.Proofs.YtaihhbiocolhcaaDoor.Sha Go.Proofs.YtaihhbiocolhcaaDoor.Ac Go.Proofs.YtaihhbiocolhcaaDoor.Tr
open Go.Proofs.YtaihhbiocolhcaaDoor.Tg (bytesOf bytesOf_length bytesOf_lt bytesOf_inj Rd Rd.below Parts parts_one arm_one tagD tagD_len tagOf_any refTag_any total image image_inj image_length)
open Go.Proofs.YtaihhbiocolhcaaDoor.Ep (H32 zh zh_ok Has h_len szH zH fitH allH came_at one_app)
set_option linter.unusedVariables false
set_option linter.unusedSimpArgs false

set_option maxHeartbeats 4000000 in
set_option maxRecDepth 100000 in
theorem own16_any (a : Acct) (w : World) :
    Calls Tryd.prog 17 #[.agg (acs a).toArray] w fun e w' => e = .returned (.agg (acs a).toArray) ∧ Below w.heap.size w w' := by
  have KA := Lib.hid (sz_acc a); have KR := Lib.hid (sz_racc a)
  go_enter Tryd.func17, Tryd.ntmps17
  go_wp2_with (first
    | ((with_reducible refine at_slot 1 ?_); (refine arm_box (o := ⟨some 1, _, _, _, _, _⟩) rfl _ _ rfl (acs a) rfl ?_); intro A v1 Ae hv1 nv1; try simp only [Act.put, List.setIfInBounds_toArray, List.set_cons_zero, List.set_cons_succ])
    | ((with_reducible refine at_slot 2 ?_); (refine arm_alloc (o := ⟨some 2, _, _, _, _, _⟩) rfl _ rfl (acs za) z_racc ?_); intro R v2 Re hv2 nv2; try simp only [Act.put, List.setIfInBounds_toArray, List.set_cons_zero, List.set_cons_succ])
    | ((with_reducible refine at_slot 3 ?_); (refine arm_load (o := ⟨some 3, _, _, _, _, _⟩) rfl _ _ rfl A 0 rfl (acs a) ((Has.refl _).range (hv1.old nv2.below)) KA.out ?_); try simp only [Act.put, List.setIfInBounds_toArray, List.set_cons_zero, List.set_cons_succ])
    | ((with_reducible refine arm_store (o := ⟨none, _, _, _, _, _⟩) rfl _ _ _ rfl R 0 rfl (acs a) rfl _ _ (hv2) (fitA a) (acs_one a) KR.out ?_); intro y9 hy9 oy9 sy9; try simp only [Act.put, List.setIfInBounds_toArray, List.set_cons_zero, List.set_cons_succ]))
  have hbv1 := nv1.below
  have rrv1 : Row v1 A 27 (acs a) := hv1
  have hbv2 := nv2.below
  have rrv2 : Row v2 R 45 (acs za) := hv2
  have geA : w.heap.size ≤ A := by have := Ae.out; omega
  clear hv1 nv1 Ae
  have bel_3 : Below w.heap.size w v1 := hbv1
  clear hbv1
  have geR : w.heap.size ≤ R := by have := Re.out; have := bel_3.size; omega
  have ltAR : A < R := by have := Re.out; have := rrv1.lt; omega
  clear hv2 nv2 Re
  have A_4 : Row v2 A 27 (acs a) := rrv1.old hbv2
  have bel_4 : Below w.heap.size w v2 := below_step bel_3 bel_3.size hbv2
  clear rrv1 bel_3 hbv2
  exact bodyPost_ret (v := .agg (acs a).toArray) (result_row (p := 2) (ty := 45) (u := 45) (by kernel_rfl) _ _ R (acs a) rfl (hy9.congr (allA a)) KR.out) rfl ⟨rfl, below_only bel_4 oy9 geR bel_4.size⟩
set_option maxHeartbeats 4000000 in
set_option maxRecDepth 100000 in
theorem awake16_any (w : World) (hk : w.rangeAt 1 0 (u32s ks)) :
    Calls Tryd.prog 7 #[] w fun e w' => e = .returned (.bool true) ∧ Below w.heap.size w w' := by
  have hk1 : 1 < w.heap.size := range_lt hk (by simp [u32s, ks])
  have HKW : Hid (∀ w', Below w.heap.size w w' → w'.rangeAt 1 0 (u32s ks)) := Lib.hid fun w' hb => range_block hk (hb.block _ hk1)
  have CN := Lib.hid (fun w0 h => Tr.new_any w0 h)
  have hp9 : Im.Is64 (9 : Int) := by decide
  have CS : Hid (∀ (B mb : Nat) w0, TrAt w0 B mb bare → Calls Tryd.prog 19 #[.pointer (some ⟨B, 0, none⟩), .int .i64 9, .agg (acs aP).toArray] w0 fun e w' => e = .returned (.int .i64 0) ∧ TrAt w' B mb nineT ∧ Only mb w0 w') := Lib.hid fun B mb w0 h0 => (set_any B mb bare 9 aP w0 h0 hp9).mono fun e w' h => ⟨by
    have h1 := h.ret
    rw [show setE (9 : Int) aP = 0 from if_pos ⟨by omega, aP_rt⟩] at h1
    exact h1, h.tr.congr set_nine, h.ow⟩
  have CR : Hid (∀ (B mb : Nat) w0, TrAt w0 B mb nineT → w0.rangeAt 1 0 (u32s ks) → Calls Tryd.prog 20 #[.pointer (some ⟨B, 0, none⟩)] w0 fun e w' => e = .returned (.agg (u8s (rootD nineT)).toArray) ∧ Below w0.heap.size w0 w') := Lib.hid fun B mb w0 h0 h => root_any B mb nineT w0 h0 good_nine h
  have CP : Hid (∀ (B mb : Nat) w0, TrAt w0 B mb nineT → w0.rangeAt 1 0 (u32s ks) → Calls Tryd.prog 22 #[.pointer (some ⟨B, 0, none⟩), .int .i64 9] w0 fun e w' => e = .returned (.tuple #[.agg (dgC nP).toArray, .int .i64 0]) ∧ Below w0.heap.size w0 w') := Lib.hid fun B mb w0 h0 h => (path_any B mb nineT 9 w0 h0 good_nine h).mono fun e w' h => ⟨by
    have h1 := h.ret
    rw [show pathI nineT (9 : Int) = nP from (if_pos (by omega)).trans nine_path] at h1
    exact h1, h.bel⟩
  have CBY : Hid (∀ w0, Calls Tryd.prog 13 #[.agg (dgC nP).toArray] w0 (BsPost w0 nP)) := Lib.hid fun w0 => bytes_any nP w0 nP_ok
  have CRD : Hid (∀ q c w0, Came w0 q c (pathB nP) → Calls Tryd.prog 10 #[.slice q 128 c] w0 fun e w' => e = .returned (.tuple #[.agg (dgC nP).toArray, .int .i64 0]) ∧ Below w0.heap.size w0 w') := Lib.hid fun q c w0 hc => by
    have h := read_any (pathB nP) q c w0 hc
    rw [nP_ok.bytes_len] at h
    exact h.mono fun e w' h => ⟨by rw [h.ret, rdP_back nP_ok, rdE_back nP_ok]; rfl, h.bel⟩
  have CH : Hid (∀ w0, w0.rangeAt 1 0 (u32s ks) → Calls Tryd.prog 27 #[.agg (acs aP).toArray] w0 fun e w' => e = .returned (.tuple #[.agg (u8s (digA aP)).toArray, .int .i64 0]) ∧ Below w0.heap.size w0 w') := Lib.hid fun w0 h => (ahash_any aP w0 aP_ok h).mono fun e w' h => ⟨by have h3 := h.ret; rw [show ansH aP = digA aP from if_pos aP_rt, show ansE aP = 0 from if_pos aP_rt] at h3; exact h3, h.bel⟩
  have CL : Hid (∀ w0, w0.rangeAt 1 0 (u32s ks) → Calls Tryd.prog 8 #[.int .i64 9, .agg (u8s (digA aP)).toArray, .agg (dgC nP).toArray] w0 fun e w' => e = .returned (.tuple #[.agg (u8s (rootD nineT)).toArray, .int .i64 0]) ∧ Below w0.heap.size w0 w') := Lib.hid fun w0 h => (lead_any 9 nP (digA aP) w0 nP_ok (digA_ok aP) h).mono fun e w' h => ⟨by rw [h.ret, lead_nine]; rfl, h.bel⟩
  have CX : Hid (∀ w0, w0.rangeAt 1 0 (u32s ks) → Calls Tryd.prog 24 #[.int .i64 9, .agg (clc aP nP).toArray, .agg (clc aP z4).toArray] w0 fun e w' => e = .returned (.tuple #[.slice none 0 0, .slice none 0 0, .bool false]) ∧ Below w0.heap.size w0 w') := Lib.hid fun w0 h => (clash_any 9 aP aP nP z4 w0 aP_ok aP_ok nP_ok z4_p4 h).mono fun e w' h => ⟨h.no (meet_self 9 nP z4), h.bel⟩
  have CK9 : Hid (∀ w0, w0.rangeAt 1 0 (u32s ks) → Calls Tryd.prog 15 #[.agg (u8s (rootD nineT)).toArray, .int .i64 9, .agg (acs aP).toArray, .agg (dgC nP).toArray] w0 fun e w' => e = .returned (.int .i64 0) ∧ Below w0.heap.size w0 w') := Lib.hid fun w0 h => (check_any (rootD nineT) 9 aP nP w0 (root_ok nineT) aP_ok nP_ok h).mono fun e w' h => ⟨by rw [h.1, chk_nine]; rfl, h.2⟩
  have CK8 : Hid (∀ w0, w0.rangeAt 1 0 (u32s ks) → Calls Tryd.prog 15 #[.agg (u8s (rootD nineT)).toArray, .int .i64 8, .agg (acs aP).toArray, .agg (dgC nP).toArray] w0 fun e w' => e = .returned (.int .i64 13) ∧ Below w0.heap.size w0 w') := Lib.hid fun w0 h => (check_any (rootD nineT) 8 aP nP w0 (root_ok nineT) aP_ok nP_ok h).mono fun e w' h => ⟨by rw [h.1, chk_eight]; rfl, h.2⟩
  have CK16 : Hid (∀ w0, w0.rangeAt 1 0 (u32s ks) → Calls Tryd.prog 15 #[.agg (u8s (rootD nineT)).toArray, .int .i64 16, .agg (acs aP).toArray, .agg (dgC nP).toArray] w0 fun e w' => e = .returned (.int .i64 1) ∧ Below w0.heap.size w0 w') := Lib.hid fun w0 h => (check_any (rootD nineT) 16 aP nP w0 (root_ok nineT) aP_ok nP_ok h).mono fun e w' h => ⟨by rw [h.1, chk_far]; rfl, h.2⟩
  have BX : Hid (Tryd.prog.built 27 [(0, .string ⟨#[97]⟩), (1, .int .u64 5)] = some (acs aP).toArray) := Lib.hid (by kernel_rfl)
  have B1 := Lib.hid (built_claim aP nP_ok); have B2 := Lib.hid (built_claim1 aP)
  have PO := Lib.hid nP_ok.ok; have PL := Lib.hid nP_ok.len
  have KP := Lib.hid (sz_path nP_ok.ok nP_ok.len); have FP := Lib.hid (fitP nP_ok.ok nP_ok.len); have AP := Lib.hid (allP nP_ok.ok nP_ok.len)
  have KR := Lib.hid (root_ok nineT); have KD := Lib.hid (digA_ok aP)
  have AX := Lib.hid (sz_acc aP); have XF := Lib.hid (fitA aP); have XO := Lib.hid (acs_one aP); have XL := Lib.hid (allA aP)
  clear hk hk1 hp9
  generalize rootD nineT = rr at CR CL CK9 CK8 CK16 KR
  generalize digA aP = da at CH CL KD
  obtain ⟨c1, hc1⟩ : ∃ x, x = clc aP nP := ⟨_, rfl⟩
  obtain ⟨c2, hc2⟩ : ∃ x, x = clc aP z4 := ⟨_, rfl⟩
  rw [← hc1] at CX B1
  rw [← hc2] at CX B2
  clear hc1 hc2
  obtain ⟨x, hx⟩ : ∃ x, x = acs aP := ⟨_, rfl⟩
  rw [← hx] at CS CH CK9 CK8 CK16 BX B1 B2 AX XF XO XL
  clear hx
  generalize nP = pp at CP CBY CRD CL CK9 CK8 CK16 B1 PO PL KP FP AP
  go_enter Tryd.func7, Tryd.ntmps7
  go_wp2_with fail
  refine (CN.out _ (HKW.out _ (Below.refl _ _))).mono ?_
  rintro e y1 ⟨⟨B, mb, rfl, hT, geB, gemb⟩, hB⟩
  have bel_2 : Below w.heap.size w y1 := hB
  clear hB
  go_wp2_with (first
    | ((with_reducible refine at_slot 18 ?_); (refine arm_want (.agg (x).toArray) 18 rfl (by kernel_rfl) (run_op_build _ _ rfl _ (by simp only [List.map_toArray, List.map_cons, List.map_nil]; exact BX.out) _) ?_); try simp only [Act.put, List.setIfInBounds_toArray, List.set_cons_zero, List.set_cons_succ])
    | ((with_reducible refine at_slot 2 ?_); (refine arm_alloc (o := ⟨some 2, _, _, _, _, _⟩) rfl _ rfl (acs za) z_acc ?_); intro X v3a Xe hXa nX; try simp only [Act.put, List.setIfInBounds_toArray, List.set_cons_zero, List.set_cons_succ])
    | ((with_reducible refine arm_store (o := ⟨none, _, _, _, _, _⟩) rfl _ _ _ rfl X 0 rfl (x) rfl _ _ hXa XF.out XO.out AX.out ?_); intro v3 hXb oX sX; try simp only [Act.put, List.setIfInBounds_toArray, List.set_cons_zero, List.set_cons_succ])
    | ((with_reducible refine at_slot 20 ?_); (refine arm_load (o := ⟨some 20, _, _, _, _, _⟩) rfl _ _ rfl X 0 rfl (x) ((Has.refl _).range (hXb.congr XL.out)) AX.out ?_); try simp only [Act.put, List.setIfInBounds_toArray, List.set_cons_zero, List.set_cons_succ]))
  have lX : y1.heap.size ≤ X := by have := Xe.out; omega
  have bX : Below y1.heap.size y1 v3 := below_only nX.below oX lX nX.below.size
  have rrX : Row v3 X 27 (x) := hXb.congr XL.out
  have geX : w.heap.size ≤ X := Nat.le_trans bel_2.size lX
  clear hXa hXb nX oX sX Xe lX
  have T_4 : TrAt v3 B mb (bare) := hT.old bX
  have bel_4 : Below w.heap.size w v3 := below_step bel_2 bel_2.size bX
  clear hT bel_2 bX
  refine (CS.out B mb _ T_4).mono ?_
  rintro e y7 ⟨rfl, hT2, hO⟩
  have nXm : X ≠ mb := Ne.symm (T_4.map.row rrX)
  have T_6 : TrAt y7 B mb (nineT) := hT2
  have X_6 : Row y7 X 27 (x) := rrX.only hO nXm
  have bel_6 : Below w.heap.size w y7 := below_only bel_4 hO gemb bel_4.size
  clear T_4 rrX bel_4 hO
  clear hT2 nXm
  go_wp2_with fail
  refine (CP.out B mb _ T_6 (HKW.out _ bel_6)).mono ?_
  rintro e y7 ⟨rfl, hB⟩
  have T_8 : TrAt y7 B mb (nineT) := T_6.old hB
  have X_8 : Row y7 X 27 (x) := X_6.old hB
  have bel_8 : Below w.heap.size w y7 := below_step bel_6 bel_6.size hB
  clear T_6 X_6 bel_6 hB
  go_wp2_with (first
    | ((with_reducible refine at_slot 3 ?_); (refine arm_alloc (o := ⟨some 3, _, _, _, _, _⟩) rfl _ rfl (dgC z4) z_path ?_); intro Y v9a Ye hYa nY; try simp only [Act.put, List.setIfInBounds_toArray, List.set_cons_zero, List.set_cons_succ])
    | ((with_reducible refine arm_store (o := ⟨none, _, _, _, _, _⟩) rfl _ _ _ rfl Y 0 rfl (dgC pp) rfl _ _ hYa FP.out (dgC_ones _) KP.out ?_); intro v9 hYb oY sY; try simp only [Act.put, List.setIfInBounds_toArray, List.set_cons_zero, List.set_cons_succ])
    | ((with_reducible refine at_slot 27 ?_); (refine arm_load (o := ⟨some 27, _, _, _, _, _⟩) rfl _ _ rfl Y 0 rfl (dgC pp) ((Has.refl _).range (hYb.congr AP.out)) KP.out ?_); try simp only [Act.put, List.setIfInBounds_toArray, List.set_cons_zero, List.set_cons_succ]))
  have lY : y7.heap.size ≤ Y := by have := Ye.out; omega
  have bY : Below y7.heap.size y7 v9 := below_only nY.below oY lY nY.below.size
  have rrY : Row v9 Y 29 (dgC pp) := hYb.congr AP.out
  have geY : w.heap.size ≤ Y := Nat.le_trans bel_8.size lY
  clear hYa hYb nY oY sY Ye lY
  have T_10 : TrAt v9 B mb (nineT) := T_8.old bY
  have X_10 : Row v9 X 27 (x) := X_8.old bY
  have bel_10 : Below w.heap.size w v9 := below_step bel_8 bel_8.size bY
  clear T_8 X_8 bel_8 bY
  refine (CBY.out _).mono ?_
  rintro e y11 ⟨⟨qb, cb, rfl, hC⟩, hB⟩
  have T_12 : TrAt y11 B mb (nineT) := T_10.old hB
  have X_12 : Row y11 X 27 (x) := X_10.old hB
  have Y_12 : Row y11 Y 29 (dgC pp) := rrY.old hB
  have bel_12 : Below w.heap.size w y11 := below_step bel_10 bel_10.size hB
  clear T_10 X_10 rrY bel_10 hB
  go_wp2_with fail
  refine (CRD.out qb cb _ hC).mono ?_
  rintro e y13 ⟨rfl, hB⟩
  have T_14 : TrAt y13 B mb (nineT) := T_12.old hB
  have X_14 : Row y13 X 27 (x) := X_12.old hB
  have Y_14 : Row y13 Y 29 (dgC pp) := Y_12.old hB
  have C_14 : Came y13 qb cb (pathB pp) := hC.below hB
  have bel_14 : Below w.heap.size w y13 := below_step bel_12 bel_12.size hB
  clear T_12 X_12 Y_12 hC bel_12 hB
  go_wp2_with (first
    | ((with_reducible refine at_slot 6 ?_); (refine arm_alloc (o := ⟨some 6, _, _, _, _, _⟩) rfl _ rfl (dgC z4) z_path ?_); intro Z v15a Ze hZa nZ; try simp only [Act.put, List.setIfInBounds_toArray, List.set_cons_zero, List.set_cons_succ])
    | ((with_reducible refine arm_store (o := ⟨none, _, _, _, _, _⟩) rfl _ _ _ rfl Z 0 rfl (dgC pp) rfl _ _ hZa FP.out (dgC_ones _) KP.out ?_); intro v15 hZb oZ sZ; try simp only [Act.put, List.setIfInBounds_toArray, List.set_cons_zero, List.set_cons_succ])
    | ((with_reducible refine at_slot 35 ?_); (refine arm_load (o := ⟨some 35, _, _, _, _, _⟩) rfl _ _ rfl X 0 rfl (x) ((Has.refl _).range ((X_14.old nZ.below).only oZ (by have := Ze.out; have := X_14.lt; omega))) AX.out ?_); try simp only [Act.put, List.setIfInBounds_toArray, List.set_cons_zero, List.set_cons_succ]))
  have lZ : y13.heap.size ≤ Z := by have := Ze.out; omega
  have bZ : Below y13.heap.size y13 v15 := below_only nZ.below oZ lZ nZ.below.size
  have rrZ : Row v15 Z 29 (dgC pp) := hZb.congr AP.out
  have geZ : w.heap.size ≤ Z := Nat.le_trans bel_14.size lZ
  clear hZa hZb nZ oZ sZ Ze lZ
  have T_16 : TrAt v15 B mb (nineT) := T_14.old bZ
  have X_16 : Row v15 X 27 (x) := X_14.old bZ
  have Y_16 : Row v15 Y 29 (dgC pp) := Y_14.old bZ
  have C_16 : Came v15 qb cb (pathB pp) := C_14.below bZ
  have bel_16 : Below w.heap.size w v15 := below_step bel_14 bel_14.size bZ
  clear T_14 X_14 Y_14 C_14 bel_14 bZ
  refine (CH.out _ (HKW.out _ bel_16)).mono ?_
  rintro e y17 ⟨rfl, hB⟩
  have T_18 : TrAt y17 B mb (nineT) := T_16.old hB
  have X_18 : Row y17 X 27 (x) := X_16.old hB
  have Y_18 : Row y17 Y 29 (dgC pp) := Y_16.old hB
  have C_18 : Came y17 qb cb (pathB pp) := C_16.below hB
  have Z_18 : Row y17 Z 29 (dgC pp) := rrZ.old hB
  have bel_18 : Below w.heap.size w y17 := below_step bel_16 bel_16.size hB
  clear T_16 X_16 Y_16 C_16 rrZ bel_16 hB
  go_wp2_with (first
    | ((with_reducible refine at_slot 8 ?_); (refine arm_alloc (o := ⟨some 8, _, _, _, _, _⟩) rfl _ rfl (u8s zh) zH ?_); intro D v19a De hDa nD; try simp only [Act.put, List.setIfInBounds_toArray, List.set_cons_zero, List.set_cons_succ])
    | ((with_reducible refine arm_store (o := ⟨none, _, _, _, _, _⟩) rfl _ _ _ rfl D 0 rfl (u8s da) rfl _ _ hDa (fitH KD.out) (u8s_one _) (szH KD.out) ?_); intro v19 hDb oD sD; try simp only [Act.put, List.setIfInBounds_toArray, List.set_cons_zero, List.set_cons_succ])
    | ((with_reducible refine at_slot 40 ?_); (refine arm_load (o := ⟨some 40, _, _, _, _, _⟩) rfl _ _ rfl D 0 rfl (u8s da) ((Has.refl _).range (hDb.congr (allH KD.out))) (szH KD.out) ?_); try simp only [Act.put, List.setIfInBounds_toArray, List.set_cons_zero, List.set_cons_succ])
    | ((with_reducible refine at_slot 41 ?_); (refine arm_load (o := ⟨some 41, _, _, _, _, _⟩) rfl _ _ rfl Y 0 rfl (dgC pp) ((Has.refl _).range ((Y_18.old nD.below).only oD (by have := De.out; have := Y_18.lt; omega))) KP.out ?_); try simp only [Act.put, List.setIfInBounds_toArray, List.set_cons_zero, List.set_cons_succ]))
  have lD : y17.heap.size ≤ D := by have := De.out; omega
  have bD : Below y17.heap.size y17 v19 := below_only nD.below oD lD nD.below.size
  have rrD : Row v19 D 23 (u8s da) := hDb.congr (allH KD.out)
  have geD : w.heap.size ≤ D := Nat.le_trans bel_18.size lD
  clear hDa hDb nD oD sD De lD
  have T_20 : TrAt v19 B mb (nineT) := T_18.old bD
  have X_20 : Row v19 X 27 (x) := X_18.old bD
  have Y_20 : Row v19 Y 29 (dgC pp) := Y_18.old bD
  have C_20 : Came v19 qb cb (pathB pp) := C_18.below bD
  have Z_20 : Row v19 Z 29 (dgC pp) := Z_18.old bD
  have bel_20 : Below w.heap.size w v19 := below_step bel_18 bel_18.size bD
  clear T_18 X_18 Y_18 C_18 Z_18 bel_18 bD
  refine (CL.out _ (HKW.out _ bel_20)).mono ?_
  rintro e y21 ⟨rfl, hB⟩
  have T_22 : TrAt y21 B mb (nineT) := T_20.old hB
  have X_22 : Row y21 X 27 (x) := X_20.old hB
  have Y_22 : Row y21 Y 29 (dgC pp) := Y_20.old hB
  have C_22 : Came y21 qb cb (pathB pp) := C_20.below hB
  have Z_22 : Row y21 Z 29 (dgC pp) := Z_20.old hB
  have D_22 : Row y21 D 23 (u8s da) := rrD.old hB
  have bel_22 : Below w.heap.size w y21 := below_step bel_20 bel_20.size hB
  clear T_20 X_20 Y_20 C_20 Z_20 rrD bel_20 hB
  go_wp2_with (first
    | ((with_reducible refine at_slot 10 ?_); (refine arm_alloc (o := ⟨some 10, _, _, _, _, _⟩) rfl _ rfl (u8s zh) zH ?_); intro E v23a Ee hEa nE; try simp only [Act.put, List.setIfInBounds_toArray, List.set_cons_zero, List.set_cons_succ])
    | ((with_reducible refine arm_store (o := ⟨none, _, _, _, _, _⟩) rfl _ _ _ rfl E 0 rfl (u8s rr) rfl _ _ hEa (fitH KR.out) (u8s_one _) (szH KR.out) ?_); intro v23 hEb oE sE; try simp only [Act.put, List.setIfInBounds_toArray, List.set_cons_zero, List.set_cons_succ])
    | ((with_reducible refine at_slot 46 ?_); (refine arm_load (o := ⟨some 46, _, _, _, _, _⟩) rfl _ _ rfl X 0 rfl (x) ((Has.refl _).range ((X_22.old nE.below).only oE (by have := Ee.out; have := X_22.lt; omega))) AX.out ?_); try simp only [Act.put, List.setIfInBounds_toArray, List.set_cons_zero, List.set_cons_succ])
    | ((with_reducible refine at_slot 47 ?_); (refine arm_load (o := ⟨some 47, _, _, _, _, _⟩) rfl _ _ rfl Y 0 rfl (dgC pp) ((Has.refl _).range ((Y_22.old nE.below).only oE (by have := Ee.out; have := Y_22.lt; omega))) KP.out ?_); try simp only [Act.put, List.setIfInBounds_toArray, List.set_cons_zero, List.set_cons_succ])
    | ((with_reducible refine at_slot 48 ?_); (refine arm_want (.agg (c1).toArray) 48 rfl (by kernel_rfl) (run_op_build _ _ rfl _ (by simp only [List.map_toArray, List.map_cons, List.map_nil]; exact B1.out) _) ?_); try simp only [Act.put, List.setIfInBounds_toArray, List.set_cons_zero, List.set_cons_succ])
    | ((with_reducible refine at_slot 49 ?_); (refine arm_load (o := ⟨some 49, _, _, _, _, _⟩) rfl _ _ rfl X 0 rfl (x) ((Has.refl _).range ((X_22.old nE.below).only oE (by have := Ee.out; have := X_22.lt; omega))) AX.out ?_); try simp only [Act.put, List.setIfInBounds_toArray, List.set_cons_zero, List.set_cons_succ])
    | ((with_reducible refine at_slot 50 ?_); (refine arm_want (.agg (c2).toArray) 50 rfl (by kernel_rfl) (run_op_build _ _ rfl _ (by simp only [List.map_toArray, List.map_cons, List.map_nil]; exact B2.out) _) ?_); try simp only [Act.put, List.setIfInBounds_toArray, List.set_cons_zero, List.set_cons_succ]))
  have lE : y21.heap.size ≤ E := by have := Ee.out; omega
  have bE : Below y21.heap.size y21 v23 := below_only nE.below oE lE nE.below.size
  have rrE : Row v23 E 23 (u8s rr) := hEb.congr (allH KR.out)
  have geE : w.heap.size ≤ E := Nat.le_trans bel_22.size lE
  clear hEa hEb nE oE sE Ee lE
  have T_24 : TrAt v23 B mb (nineT) := T_22.old bE
  have X_24 : Row v23 X 27 (x) := X_22.old bE
  have Y_24 : Row v23 Y 29 (dgC pp) := Y_22.old bE
  have C_24 : Came v23 qb cb (pathB pp) := C_22.below bE
  have Z_24 : Row v23 Z 29 (dgC pp) := Z_22.old bE
  have D_24 : Row v23 D 23 (u8s da) := D_22.old bE
  have bel_24 : Below w.heap.size w v23 := below_step bel_22 bel_22.size bE
  clear T_22 X_22 Y_22 C_22 Z_22 D_22 bel_22 bE
  refine (CX.out _ (HKW.out _ bel_24)).mono ?_
  rintro e y25 ⟨rfl, hB⟩
  have T_26 : TrAt y25 B mb (nineT) := T_24.old hB
  have X_26 : Row y25 X 27 (x) := X_24.old hB
  have Y_26 : Row y25 Y 29 (dgC pp) := Y_24.old hB
  have C_26 : Came y25 qb cb (pathB pp) := C_24.below hB
  have Z_26 : Row y25 Z 29 (dgC pp) := Z_24.old hB
  have D_26 : Row y25 D 23 (u8s da) := D_24.old hB
  have E_26 : Row y25 E 23 (u8s rr) := rrE.old hB
  have bel_26 : Below w.heap.size w y25 := below_step bel_24 bel_24.size hB
  clear T_24 X_24 Y_24 C_24 Z_24 D_24 rrE bel_24 hB
  go_wp2_with fail
  clear D_26
  clear C_26
  refine wp_region_held (S := fun w' => Row w' X 27 (x) ∧ Row w' Y 29 (dgC pp) ∧ Row w' Z 29 (dgC pp) ∧ Row w' E 23 (u8s rr) ∧ True) (by kernel_rfl) ?_
  change wpAnyH _ _ _ _ _ _ _ _ y25.drew
  have hd27 : Below y25.heap.size y25 y25.drew := (Below.refl _ _).drew
  have T_28 : TrAt y25.drew B mb (nineT) := T_26.old hd27
  have X_28 : Row y25.drew X 27 (x) := X_26.old hd27
  have Y_28 : Row y25.drew Y 29 (dgC pp) := Y_26.old hd27
  have Z_28 : Row y25.drew Z 29 (dgC pp) := Z_26.old hd27
  have E_28 : Row y25.drew E 23 (u8s rr) := E_26.old hd27
  have bel_28 : Below w.heap.size w y25.drew := below_step bel_26 bel_26.size hd27
  clear T_26 X_26 Y_26 Z_26 E_26 bel_26 hd27
  generalize y25.drew = yz27 at T_28 X_28 Y_28 Z_28 E_28 bel_28 ⊢
  refine h_take 0 (.pointer (some ⟨B, 0, none⟩)) rfl 55 rfl (by kernel_rfl) (by kernel_rfl) (by kernel_rfl) (by kernel_rfl) (fun _ _ _ h => h) (fun w' _ => by kernel_rfl) ⟨X_28, Y_28, Z_28, E_28, trivial⟩ ?_
  simp only [Act.put, List.setIfInBounds_toArray, List.set_cons_zero, List.set_cons_succ]
  refine h_take 2 (.agg (x).toArray) rfl 57 rfl (by kernel_rfl) (by kernel_rfl) (by kernel_rfl) (by kernel_rfl) (fun _ _ _ h => h) (fun w' hw => run_op_load _ _ rfl X (0) rfl (x) (((Has.refl _)).range hw.1) (AX.out)) ⟨X_28, Y_28, Z_28, E_28, trivial⟩ ?_
  simp only [Act.put, List.setIfInBounds_toArray, List.set_cons_zero, List.set_cons_succ]
  refine h_take 3 (.agg (dgC pp).toArray) rfl 58 rfl (by kernel_rfl) (by kernel_rfl) (by kernel_rfl) (by kernel_rfl) (fun _ _ _ h => h) (fun w' hw => run_op_load _ _ rfl Y (0) rfl (dgC pp) (((Has.refl _)).range hw.2.1) (KP.out)) ⟨X_28, Y_28, Z_28, E_28, trivial⟩ ?_
  simp only [Act.put, List.setIfInBounds_toArray, List.set_cons_zero, List.set_cons_succ]
  refine h_one (i := 1) (by kernel_rfl) (o_call rfl 56 rfl (by kernel_rfl) (run_op_call 20 _ _ rfl #[.pointer (some ⟨B, 0, none⟩)] (by simp only [List.map_toArray, List.map_cons, List.map_nil]; rfl) Tryd.func20 (by kernel_rfl) (by kernel_rfl) _) (CR.out B mb _ T_28 (HKW.out _ bel_28)) ?_)
  rintro e y29 ⟨rfl, hB⟩
  have T_30 : TrAt y29 B mb (nineT) := T_28.old hB
  have X_30 : Row y29 X 27 (x) := X_28.old hB
  have Y_30 : Row y29 Y 29 (dgC pp) := Y_28.old hB
  have Z_30 : Row y29 Z 29 (dgC pp) := Z_28.old hB
  have E_30 : Row y29 E 23 (u8s rr) := E_28.old hB
  have bel_30 : Below w.heap.size w y29 := below_step bel_28 bel_28.size hB
  clear T_28 X_28 Y_28 Z_28 E_28 bel_28 hB
  refine ⟨_, rfl, ⟨X_30, Y_30, Z_30, E_30, trivial⟩, ?_⟩
  simp only [Act.put, List.setIfInBounds_toArray, List.set_cons_zero, List.set_cons_succ]
  refine h_one (i := 4) (by kernel_rfl) (o_call rfl 59 rfl (by kernel_rfl) (run_op_call 15 _ _ rfl #[.agg (u8s rr).toArray, .int .i64 9, .agg x.toArray, .agg (dgC pp).toArray] (by simp only [List.map_toArray, List.map_cons, List.map_nil]; rfl) Tryd.func15 (by kernel_rfl) (by kernel_rfl) _) (CK9.out _ (HKW.out _ bel_30)) ?_)
  rintro e y31 ⟨rfl, hB⟩
  have T_32 : TrAt y31 B mb (nineT) := T_30.old hB
  have X_32 : Row y31 X 27 (x) := X_30.old hB
  have Y_32 : Row y31 Y 29 (dgC pp) := Y_30.old hB
  have Z_32 : Row y31 Z 29 (dgC pp) := Z_30.old hB
  have E_32 : Row y31 E 23 (u8s rr) := E_30.old hB
  have bel_32 : Below w.heap.size w y31 := below_step bel_30 bel_30.size hB
  clear T_30 X_30 Y_30 Z_30 E_30 bel_30 hB
  refine ⟨_, rfl, ⟨X_32, Y_32, Z_32, E_32, trivial⟩, ?_⟩
  simp only [Act.put, List.setIfInBounds_toArray, List.set_cons_zero, List.set_cons_succ]
  refine h_take 5 (.bool true) rfl 60 rfl (by kernel_rfl) (by kernel_rfl) (by kernel_rfl) (by kernel_rfl) (fun _ _ _ h => h) (fun w' _ => by kernel_rfl) ⟨X_32, Y_32, Z_32, E_32, trivial⟩ ?_
  simp only [Act.put, List.setIfInBounds_toArray, List.set_cons_zero, List.set_cons_succ]
  refine h_take 6 (.bool true) rfl 61 rfl (by kernel_rfl) (by kernel_rfl) (by kernel_rfl) (by kernel_rfl) (fun _ _ _ h => h) (fun w' _ => by kernel_rfl) ⟨X_32, Y_32, Z_32, E_32, trivial⟩ ?_
  simp only [Act.put, List.setIfInBounds_toArray, List.set_cons_zero, List.set_cons_succ]
  refine h_take 7 (.pointer (some ⟨B, 0, none⟩)) rfl 62 rfl (by kernel_rfl) (by kernel_rfl) (by kernel_rfl) (by kernel_rfl) (fun _ _ _ h => h) (fun w' _ => by kernel_rfl) ⟨X_32, Y_32, Z_32, E_32, trivial⟩ ?_
  simp only [Act.put, List.setIfInBounds_toArray, List.set_cons_zero, List.set_cons_succ]
  refine h_take 9 (.agg (x).toArray) rfl 64 rfl (by kernel_rfl) (by kernel_rfl) (by kernel_rfl) (by kernel_rfl) (fun _ _ _ h => h) (fun w' hw => run_op_load _ _ rfl X (0) rfl (x) (((Has.refl _)).range hw.1) (AX.out)) ⟨X_32, Y_32, Z_32, E_32, trivial⟩ ?_
  simp only [Act.put, List.setIfInBounds_toArray, List.set_cons_zero, List.set_cons_succ]
  refine h_take 10 (.agg (dgC pp).toArray) rfl 65 rfl (by kernel_rfl) (by kernel_rfl) (by kernel_rfl) (by kernel_rfl) (fun _ _ _ h => h) (fun w' hw => run_op_load _ _ rfl Y (0) rfl (dgC pp) (((Has.refl _)).range hw.2.1) (KP.out)) ⟨X_32, Y_32, Z_32, E_32, trivial⟩ ?_
  simp only [Act.put, List.setIfInBounds_toArray, List.set_cons_zero, List.set_cons_succ]
  refine h_one (i := 8) (by kernel_rfl) (o_call rfl 63 rfl (by kernel_rfl) (run_op_call 20 _ _ rfl #[.pointer (some ⟨B, 0, none⟩)] (by simp only [List.map_toArray, List.map_cons, List.map_nil]; rfl) Tryd.func20 (by kernel_rfl) (by kernel_rfl) _) (CR.out B mb _ T_32 (HKW.out _ bel_32)) ?_)
  rintro e y33 ⟨rfl, hB⟩
  have T_34 : TrAt y33 B mb (nineT) := T_32.old hB
  have X_34 : Row y33 X 27 (x) := X_32.old hB
  have Y_34 : Row y33 Y 29 (dgC pp) := Y_32.old hB
  have Z_34 : Row y33 Z 29 (dgC pp) := Z_32.old hB
  have E_34 : Row y33 E 23 (u8s rr) := E_32.old hB
  have bel_34 : Below w.heap.size w y33 := below_step bel_32 bel_32.size hB
  clear T_32 X_32 Y_32 Z_32 E_32 bel_32 hB
  refine ⟨_, rfl, ⟨X_34, Y_34, Z_34, E_34, trivial⟩, ?_⟩
  simp only [Act.put, List.setIfInBounds_toArray, List.set_cons_zero, List.set_cons_succ]
  refine h_one (i := 11) (by kernel_rfl) (o_call rfl 66 rfl (by kernel_rfl) (run_op_call 15 _ _ rfl #[.agg (u8s rr).toArray, .int .i64 8, .agg x.toArray, .agg (dgC pp).toArray] (by simp only [List.map_toArray, List.map_cons, List.map_nil]; rfl) Tryd.func15 (by kernel_rfl) (by kernel_rfl) _) (CK8.out _ (HKW.out _ bel_34)) ?_)
  rintro e y35 ⟨rfl, hB⟩
  have T_36 : TrAt y35 B mb (nineT) := T_34.old hB
  have X_36 : Row y35 X 27 (x) := X_34.old hB
  have Y_36 : Row y35 Y 29 (dgC pp) := Y_34.old hB
  have Z_36 : Row y35 Z 29 (dgC pp) := Z_34.old hB
  have E_36 : Row y35 E 23 (u8s rr) := E_34.old hB
  have bel_36 : Below w.heap.size w y35 := below_step bel_34 bel_34.size hB
  clear T_34 X_34 Y_34 Z_34 E_34 bel_34 hB
  refine ⟨_, rfl, ⟨X_36, Y_36, Z_36, E_36, trivial⟩, ?_⟩
  simp only [Act.put, List.setIfInBounds_toArray, List.set_cons_zero, List.set_cons_succ]
  refine h_take 12 (.bool true) rfl 67 rfl (by kernel_rfl) (by kernel_rfl) (by kernel_rfl) (by kernel_rfl) (fun _ _ _ h => h) (fun w' _ => by kernel_rfl) ⟨X_36, Y_36, Z_36, E_36, trivial⟩ ?_
  simp only [Act.put, List.setIfInBounds_toArray, List.set_cons_zero, List.set_cons_succ]
  refine h_take 13 (.bool true) rfl 68 rfl (by kernel_rfl) (by kernel_rfl) (by kernel_rfl) (by kernel_rfl) (fun _ _ _ h => h) (fun w' _ => by kernel_rfl) ⟨X_36, Y_36, Z_36, E_36, trivial⟩ ?_
  simp only [Act.put, List.setIfInBounds_toArray, List.set_cons_zero, List.set_cons_succ]
  refine h_take 14 (.bool true) rfl 69 rfl (by kernel_rfl) (by kernel_rfl) (by kernel_rfl) (by kernel_rfl) (fun _ _ _ h => h) (fun w' _ => by kernel_rfl) ⟨X_36, Y_36, Z_36, E_36, trivial⟩ ?_
  simp only [Act.put, List.setIfInBounds_toArray, List.set_cons_zero, List.set_cons_succ]
  refine h_take 15 (.pointer (some ⟨B, 0, none⟩)) rfl 70 rfl (by kernel_rfl) (by kernel_rfl) (by kernel_rfl) (by kernel_rfl) (fun _ _ _ h => h) (fun w' _ => by kernel_rfl) ⟨X_36, Y_36, Z_36, E_36, trivial⟩ ?_
  simp only [Act.put, List.setIfInBounds_toArray, List.set_cons_zero, List.set_cons_succ]
  refine h_take 17 (.agg (x).toArray) rfl 72 rfl (by kernel_rfl) (by kernel_rfl) (by kernel_rfl) (by kernel_rfl) (fun _ _ _ h => h) (fun w' hw => run_op_load _ _ rfl X (0) rfl (x) (((Has.refl _)).range hw.1) (AX.out)) ⟨X_36, Y_36, Z_36, E_36, trivial⟩ ?_
  simp only [Act.put, List.setIfInBounds_toArray, List.set_cons_zero, List.set_cons_succ]
  refine h_take 18 (.agg (dgC pp).toArray) rfl 73 rfl (by kernel_rfl) (by kernel_rfl) (by kernel_rfl) (by kernel_rfl) (fun _ _ _ h => h) (fun w' hw => run_op_load _ _ rfl Y (0) rfl (dgC pp) (((Has.refl _)).range hw.2.1) (KP.out)) ⟨X_36, Y_36, Z_36, E_36, trivial⟩ ?_
  simp only [Act.put, List.setIfInBounds_toArray, List.set_cons_zero, List.set_cons_succ]
  refine h_one (i := 16) (by kernel_rfl) (o_call rfl 71 rfl (by kernel_rfl) (run_op_call 20 _ _ rfl #[.pointer (some ⟨B, 0, none⟩)] (by simp only [List.map_toArray, List.map_cons, List.map_nil]; rfl) Tryd.func20 (by kernel_rfl) (by kernel_rfl) _) (CR.out B mb _ T_36 (HKW.out _ bel_36)) ?_)
  rintro e y37 ⟨rfl, hB⟩
  have T_38 : TrAt y37 B mb (nineT) := T_36.old hB
  have X_38 : Row y37 X 27 (x) := X_36.old hB
  have Y_38 : Row y37 Y 29 (dgC pp) := Y_36.old hB
  have Z_38 : Row y37 Z 29 (dgC pp) := Z_36.old hB
  have E_38 : Row y37 E 23 (u8s rr) := E_36.old hB
  have bel_38 : Below w.heap.size w y37 := below_step bel_36 bel_36.size hB
  clear T_36 X_36 Y_36 Z_36 E_36 bel_36 hB
  refine ⟨_, rfl, ⟨X_38, Y_38, Z_38, E_38, trivial⟩, ?_⟩
  simp only [Act.put, List.setIfInBounds_toArray, List.set_cons_zero, List.set_cons_succ]
  refine h_one (i := 19) (by kernel_rfl) (o_call rfl 74 rfl (by kernel_rfl) (run_op_call 15 _ _ rfl #[.agg (u8s rr).toArray, .int .i64 16, .agg x.toArray, .agg (dgC pp).toArray] (by simp only [List.map_toArray, List.map_cons, List.map_nil]; rfl) Tryd.func15 (by kernel_rfl) (by kernel_rfl) _) (CK16.out _ (HKW.out _ bel_38)) ?_)
  rintro e y39 ⟨rfl, hB⟩
  have T_40 : TrAt y39 B mb (nineT) := T_38.old hB
  have X_40 : Row y39 X 27 (x) := X_38.old hB
  have Y_40 : Row y39 Y 29 (dgC pp) := Y_38.old hB
  have Z_40 : Row y39 Z 29 (dgC pp) := Z_38.old hB
  have E_40 : Row y39 E 23 (u8s rr) := E_38.old hB
  have bel_40 : Below w.heap.size w y39 := below_step bel_38 bel_38.size hB
  clear T_38 X_38 Y_38 Z_38 E_38 bel_38 hB
  refine ⟨_, rfl, ⟨X_40, Y_40, Z_40, E_40, trivial⟩, ?_⟩
  simp only [Act.put, List.setIfInBounds_toArray, List.set_cons_zero, List.set_cons_succ]
  refine h_take 20 (.bool true) rfl 75 rfl (by kernel_rfl) (by kernel_rfl) (by kernel_rfl) (by kernel_rfl) (fun _ _ _ h => h) (fun w' _ => by kernel_rfl) ⟨X_40, Y_40, Z_40, E_40, trivial⟩ ?_
  simp only [Act.put, List.setIfInBounds_toArray, List.set_cons_zero, List.set_cons_succ]
  refine h_take 21 (.bool true) rfl 76 rfl (by kernel_rfl) (by kernel_rfl) (by kernel_rfl) (by kernel_rfl) (fun _ _ _ h => h) (fun w' _ => by kernel_rfl) ⟨X_40, Y_40, Z_40, E_40, trivial⟩ ?_
  simp only [Act.put, List.setIfInBounds_toArray, List.set_cons_zero, List.set_cons_succ]
  refine h_take 22 (.bool true) rfl 77 rfl (by kernel_rfl) (by kernel_rfl) (by kernel_rfl) (by kernel_rfl) (fun _ _ _ h => h) (fun w' _ => by kernel_rfl) ⟨X_40, Y_40, Z_40, E_40, trivial⟩ ?_
  simp only [Act.put, List.setIfInBounds_toArray, List.set_cons_zero, List.set_cons_succ]
  refine h_take 23 (.agg (dgC pp).toArray) rfl 78 rfl (by kernel_rfl) (by kernel_rfl) (by kernel_rfl) (by kernel_rfl) (fun _ _ _ h => h) (fun w' hw => run_op_load _ _ rfl Z (0) rfl (dgC pp) (((Has.refl _)).range hw.2.2.1) (KP.out)) ⟨X_40, Y_40, Z_40, E_40, trivial⟩ ?_
  simp only [Act.put, List.setIfInBounds_toArray, List.set_cons_zero, List.set_cons_succ]
  refine h_take 24 (.agg (dgC pp).toArray) rfl 79 rfl (by kernel_rfl) (by kernel_rfl) (by kernel_rfl) (by kernel_rfl) (fun _ _ _ h => h) (fun w' hw => run_op_load _ _ rfl Y (0) rfl (dgC pp) (((Has.refl _)).range hw.2.1) (KP.out)) ⟨X_40, Y_40, Z_40, E_40, trivial⟩ ?_
  simp only [Act.put, List.setIfInBounds_toArray, List.set_cons_zero, List.set_cons_succ]
  refine h_take 25 (.bool true) rfl 80 rfl (by kernel_rfl) (by kernel_rfl) (by kernel_rfl) (by kernel_rfl) (fun _ _ _ h => h) (fun w' _ => run_op_eqlP PO.out PO.out PL.out PL.out 29 (by kernel_rfl) (by kernel_rfl) _ _ _ rfl rfl rfl true (iff_of_true rfl rfl) w') ⟨X_40, Y_40, Z_40, E_40, trivial⟩ ?_
  simp only [Act.put, List.setIfInBounds_toArray, List.set_cons_zero, List.set_cons_succ]
  refine h_take 26 (.bool true) rfl 81 rfl (by kernel_rfl) (by kernel_rfl) (by kernel_rfl) (by kernel_rfl) (fun _ _ _ h => h) (fun w' _ => by kernel_rfl) ⟨X_40, Y_40, Z_40, E_40, trivial⟩ ?_
  simp only [Act.put, List.setIfInBounds_toArray, List.set_cons_zero, List.set_cons_succ]
  refine h_take 27 (.bool true) rfl 82 rfl (by kernel_rfl) (by kernel_rfl) (by kernel_rfl) (by kernel_rfl) (fun _ _ _ h => h) (fun w' _ => by kernel_rfl) ⟨X_40, Y_40, Z_40, E_40, trivial⟩ ?_
  simp only [Act.put, List.setIfInBounds_toArray, List.set_cons_zero, List.set_cons_succ]
  refine h_take 28 (.int .i64 0) rfl 83 rfl (by kernel_rfl) (by kernel_rfl) (by kernel_rfl) (by kernel_rfl) (fun _ _ _ h => h) (fun w' _ => by kernel_rfl) ⟨X_40, Y_40, Z_40, E_40, trivial⟩ ?_
  simp only [Act.put, List.setIfInBounds_toArray, List.set_cons_zero, List.set_cons_succ]
  refine h_take 29 (.bool true) rfl 84 rfl (by kernel_rfl) (by kernel_rfl) (by kernel_rfl) (by kernel_rfl) (fun _ _ _ h => h) (fun w' _ => by kernel_rfl) ⟨X_40, Y_40, Z_40, E_40, trivial⟩ ?_
  simp only [Act.put, List.setIfInBounds_toArray, List.set_cons_zero, List.set_cons_succ]
  refine h_take 30 (.bool true) rfl 85 rfl (by kernel_rfl) (by kernel_rfl) (by kernel_rfl) (by kernel_rfl) (fun _ _ _ h => h) (fun w' _ => by kernel_rfl) ⟨X_40, Y_40, Z_40, E_40, trivial⟩ ?_
  simp only [Act.put, List.setIfInBounds_toArray, List.set_cons_zero, List.set_cons_succ]
  refine h_take 31 (.bool true) rfl 86 rfl (by kernel_rfl) (by kernel_rfl) (by kernel_rfl) (by kernel_rfl) (fun _ _ _ h => h) (fun w' _ => by kernel_rfl) ⟨X_40, Y_40, Z_40, E_40, trivial⟩ ?_
  simp only [Act.put, List.setIfInBounds_toArray, List.set_cons_zero, List.set_cons_succ]
  refine h_take 32 (.slice qb 128 cb) rfl 87 rfl (by kernel_rfl) (by kernel_rfl) (by kernel_rfl) (by kernel_rfl) (fun _ _ _ h => h) (fun w' _ => by kernel_rfl) ⟨X_40, Y_40, Z_40, E_40, trivial⟩ ?_
  simp only [Act.put, List.setIfInBounds_toArray, List.set_cons_zero, List.set_cons_succ]
  refine h_take 33 (.int .i64 128) rfl 88 rfl (by kernel_rfl) (by kernel_rfl) (by kernel_rfl) (by kernel_rfl) (fun _ _ _ h => h) (fun w' _ => Sl.run_op_lenK _ _ 5 rfl (by kernel_rfl) qb 128 cb rfl w') ⟨X_40, Y_40, Z_40, E_40, trivial⟩ ?_
  simp only [Act.put, List.setIfInBounds_toArray, List.set_cons_zero, List.set_cons_succ]
  refine h_take 34 (.bool true) rfl 89 rfl (by kernel_rfl) (by kernel_rfl) (by kernel_rfl) (by kernel_rfl) (fun _ _ _ h => h) (fun w' _ => by kernel_rfl) ⟨X_40, Y_40, Z_40, E_40, trivial⟩ ?_
  simp only [Act.put, List.setIfInBounds_toArray, List.set_cons_zero, List.set_cons_succ]
  refine h_take 35 (.bool true) rfl 90 rfl (by kernel_rfl) (by kernel_rfl) (by kernel_rfl) (by kernel_rfl) (fun _ _ _ h => h) (fun w' _ => by kernel_rfl) ⟨X_40, Y_40, Z_40, E_40, trivial⟩ ?_
  simp only [Act.put, List.setIfInBounds_toArray, List.set_cons_zero, List.set_cons_succ]
  refine h_take 36 (.bool true) rfl 91 rfl (by kernel_rfl) (by kernel_rfl) (by kernel_rfl) (by kernel_rfl) (fun _ _ _ h => h) (fun w' _ => by kernel_rfl) ⟨X_40, Y_40, Z_40, E_40, trivial⟩ ?_
  simp only [Act.put, List.setIfInBounds_toArray, List.set_cons_zero, List.set_cons_succ]
  refine h_take 37 (.agg (u8s rr).toArray) rfl 92 rfl (by kernel_rfl) (by kernel_rfl) (by kernel_rfl) (by kernel_rfl) (fun _ _ _ h => h) (fun w' hw => run_op_load _ _ rfl E (0) rfl (u8s rr) (((Has.refl _)).range hw.2.2.2.1) ((szH KR.out))) ⟨X_40, Y_40, Z_40, E_40, trivial⟩ ?_
  simp only [Act.put, List.setIfInBounds_toArray, List.set_cons_zero, List.set_cons_succ]
  refine h_take 38 (.pointer (some ⟨B, 0, none⟩)) rfl 93 rfl (by kernel_rfl) (by kernel_rfl) (by kernel_rfl) (by kernel_rfl) (fun _ _ _ h => h) (fun w' _ => by kernel_rfl) ⟨X_40, Y_40, Z_40, E_40, trivial⟩ ?_
  simp only [Act.put, List.setIfInBounds_toArray, List.set_cons_zero, List.set_cons_succ]
  refine h_one (i := 39) (by kernel_rfl) (o_call rfl 94 rfl (by kernel_rfl) (run_op_call 20 _ _ rfl #[.pointer (some ⟨B, 0, none⟩)] (by simp only [List.map_toArray, List.map_cons, List.map_nil]; rfl) Tryd.func20 (by kernel_rfl) (by kernel_rfl) _) (CR.out B mb _ T_40 (HKW.out _ bel_40)) ?_)
  rintro e y41 ⟨rfl, hB⟩
  have T_42 : TrAt y41 B mb (nineT) := T_40.old hB
  have X_42 : Row y41 X 27 (x) := X_40.old hB
  have Y_42 : Row y41 Y 29 (dgC pp) := Y_40.old hB
  have Z_42 : Row y41 Z 29 (dgC pp) := Z_40.old hB
  have E_42 : Row y41 E 23 (u8s rr) := E_40.old hB
  have bel_42 : Below w.heap.size w y41 := below_step bel_40 bel_40.size hB
  clear T_40 X_40 Y_40 Z_40 E_40 bel_40 hB
  refine ⟨_, rfl, ⟨X_42, Y_42, Z_42, E_42, trivial⟩, ?_⟩
  simp only [Act.put, List.setIfInBounds_toArray, List.set_cons_zero, List.set_cons_succ]
  refine h_take 40 (.bool true) rfl 95 rfl (by kernel_rfl) (by kernel_rfl) (by kernel_rfl) (by kernel_rfl) (fun _ _ _ h => h) (fun w' _ => run_op_eqlD KR.out KR.out _ _ _ rfl rfl rfl true (iff_of_true rfl rfl) w') ⟨X_42, Y_42, Z_42, E_42, trivial⟩ ?_
  simp only [Act.put, List.setIfInBounds_toArray, List.set_cons_zero, List.set_cons_succ]
  refine h_take 41 (.bool true) rfl 96 rfl (by kernel_rfl) (by kernel_rfl) (by kernel_rfl) (by kernel_rfl) (fun _ _ _ h => h) (fun w' _ => by kernel_rfl) ⟨X_42, Y_42, Z_42, E_42, trivial⟩ ?_
  simp only [Act.put, List.setIfInBounds_toArray, List.set_cons_zero, List.set_cons_succ]
  refine h_take 42 (.bool true) rfl 97 rfl (by kernel_rfl) (by kernel_rfl) (by kernel_rfl) (by kernel_rfl) (fun _ _ _ h => h) (fun w' _ => by kernel_rfl) ⟨X_42, Y_42, Z_42, E_42, trivial⟩ ?_
  simp only [Act.put, List.setIfInBounds_toArray, List.set_cons_zero, List.set_cons_succ]
  refine h_take 43 (.int .i64 0) rfl 98 rfl (by kernel_rfl) (by kernel_rfl) (by kernel_rfl) (by kernel_rfl) (fun _ _ _ h => h) (fun w' _ => by kernel_rfl) ⟨X_42, Y_42, Z_42, E_42, trivial⟩ ?_
  simp only [Act.put, List.setIfInBounds_toArray, List.set_cons_zero, List.set_cons_succ]
  refine h_take 44 (.bool true) rfl 99 rfl (by kernel_rfl) (by kernel_rfl) (by kernel_rfl) (by kernel_rfl) (fun _ _ _ h => h) (fun w' _ => by kernel_rfl) ⟨X_42, Y_42, Z_42, E_42, trivial⟩ ?_
  simp only [Act.put, List.setIfInBounds_toArray, List.set_cons_zero, List.set_cons_succ]
  refine h_take 45 (.bool true) rfl 100 rfl (by kernel_rfl) (by kernel_rfl) (by kernel_rfl) (by kernel_rfl) (fun _ _ _ h => h) (fun w' _ => by kernel_rfl) ⟨X_42, Y_42, Z_42, E_42, trivial⟩ ?_
  simp only [Act.put, List.setIfInBounds_toArray, List.set_cons_zero, List.set_cons_succ]
  refine h_take 46 (.bool true) rfl 101 rfl (by kernel_rfl) (by kernel_rfl) (by kernel_rfl) (by kernel_rfl) (fun _ _ _ h => h) (fun w' _ => by kernel_rfl) ⟨X_42, Y_42, Z_42, E_42, trivial⟩ ?_
  simp only [Act.put, List.setIfInBounds_toArray, List.set_cons_zero, List.set_cons_succ]
  refine h_take 47 (.bool false) rfl 102 rfl (by kernel_rfl) (by kernel_rfl) (by kernel_rfl) (by kernel_rfl) (fun _ _ _ h => h) (fun w' _ => by kernel_rfl) ⟨X_42, Y_42, Z_42, E_42, trivial⟩ ?_
  simp only [Act.put, List.setIfInBounds_toArray, List.set_cons_zero, List.set_cons_succ]
  refine h_take 48 (.bool true) rfl 103 rfl (by kernel_rfl) (by kernel_rfl) (by kernel_rfl) (by kernel_rfl) (fun _ _ _ h => h) (fun w' _ => by kernel_rfl) ⟨X_42, Y_42, Z_42, E_42, trivial⟩ ?_
  simp only [Act.put, List.setIfInBounds_toArray, List.set_cons_zero, List.set_cons_succ]
  refine h_take 49 (.bool true) rfl 104 rfl (by kernel_rfl) (by kernel_rfl) (by kernel_rfl) (by kernel_rfl) (fun _ _ _ h => h) (fun w' _ => by kernel_rfl) ⟨X_42, Y_42, Z_42, E_42, trivial⟩ ?_
  simp only [Act.put, List.setIfInBounds_toArray, List.set_cons_zero, List.set_cons_succ]
  refine h_take 50 (.bool true) rfl 0 rfl (by kernel_rfl) (by kernel_rfl) (by kernel_rfl) (by kernel_rfl) (fun _ _ _ h => h) (fun w' _ => by kernel_rfl) ⟨X_42, Y_42, Z_42, E_42, trivial⟩ ?_
  simp only [Act.put, List.setIfInBounds_toArray, List.set_cons_zero, List.set_cons_succ]
  refine wpAnyH_done (by kernel_rfl) ?_ _
  go_wp2_with fail
  go_ret
  exact ⟨rfl, bel_42⟩
end Go.Proofs.YtaihhbiocolhcaaDoor.Pf
