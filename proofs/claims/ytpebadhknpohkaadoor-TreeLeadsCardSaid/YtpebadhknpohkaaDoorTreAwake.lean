/-
  The contract of layer 15's awake: the calls whose answers the document fixes answer so: it returns true. Over this seat's translation.
-/
import Derived.Test.YtpebadhknpohkaaDoorTrePath
namespace Go.Proofs.YtpebadhknpohkaaDoor.Tr
open Go.ChangeShapes Go.WideShapes Go.ChangeAt Go.RowKit Go.Proofs.YtpebadhknpohkaaDoor.Mem Go.Proofs.YtpebadhknpohkaaDoor.Bt Go.Proofs.YtpebadhknpohkaaDoor.Wi Go.Proofs.YtpebadhknpohkaaDoor.Sha Go.Proofs.YtpebadhknpohkaaDoor.Ac Go.Proofs.YtpebadhknpohkaaDoor.Im
open Go.Proofs.YtpebadhknpohkaaDoor.Tg (bytesOf bytesOf_length bytesOf_lt bytesOf_inj Rd Rd.below Parts parts_one arm_one tagD tagD_len tagOf_any refTag_any total)
open Go.Proofs.YtpebadhknpohkaaDoor.Ep (H32 zh zh_ok Has h_len szH zH fitH allH came_at)
set_option linter.unusedVariables false
set_option linter.unusedSimpArgs false

theorem setM_one : setR bare (5 : Int) aA = oneT := by
  unfold setR
  rw [if_pos ⟨by omega, aA_rt⟩]
  rfl
theorem dropM_one : dropR oneT (5 : Int) = bare := by
  rw [← one_drop]
  funext i
  unfold dropR delI setT
  by_cases h : i = 5
  · rw [if_pos h, if_pos (by omega)]
  · rw [if_neg h, if_neg (by omega)]
theorem dropM_bare : dropR bare (5 : Int) = bare := drop_none rfl
theorem setM_far : setR oneT (16 : Int) aA = oneT := if_neg fun h => by have := h.1.2; omega
theorem setM_far0 : setR bare (16 : Int) aA = bare := if_neg fun h => by have := h.1.2; omega
theorem good_one : Good oneT := setM_one ▸ good_set good_bare 5 aA_ok
theorem cnt_one : cntM oneT 16 = 1 := by decide
theorem cnt_bare : cntM bare 16 = 0 := by decide
theorem path_one : pathI oneT (4 : Int) = [digA aA, besD oneT 4 1, besD oneT 4 2, besD oneT 4 3] := by
  unfold pathI
  rw [if_pos ⟨by omega, by omega⟩]
  show [besD oneT 4 0, _, _, _] = _
  rw [one_beside]
  rfl
structure AwRel (w : World) (B mb D : Nat) (i : Value) (wr : World) : Prop where
  ex : ∃ k : Nat, k ≤ 4 ∧ i = .int .i64 ((k + 1 : Nat) : Int) ∧ Row wr D 50 (u8s (bareD k))
  tr : TrAt wr B mb bare
  bel : Below w.heap.size w wr
theorem tree_ne_dig {w : World} {B mb : Nat} {t : Tree} {d : List Nat} {ty : TypeId} (h : TrAt w B mb t) (g : Row w B ty (u8s d)) : False := by
  have e := h.row.inj g
  have h0 : (tcs mb b5)[0]? = some (.map (some mb)) := rfl
  rw [e] at h0
  obtain ⟨m, hm⟩ := Ep.u8s_int d _ (List.mem_of_getElem? h0)
  cases hm
set_option maxHeartbeats 4000000 in
set_option maxRecDepth 100000 in
theorem awake_any (w : World) (hk : w.rangeAt 0 0 (u32s ks)) :
    Calls Tryd.prog 7 #[] w fun e w' => e = .returned (.bool true) ∧ Below w.heap.size w w' := by
  have hk1 : 0 < w.heap.size := range_lt hk (by simp [u32s, ks])
  have HKW : Hid (∀ w', Below w.heap.size w w' → w'.rangeAt 0 0 (u32s ks)) := Lib.hid fun w' hb => range_block hk (hb.block _ hk1)
  have CN := Lib.hid (fun w0 h => new_any w0 h)
  have CM : Hid (∀ w0, w0.rangeAt 0 0 (u32s ks) → Calls Tryd.prog 21 #[] w0 fun e w' => e = .returned (.agg (u8s (bareD 0)).toArray) ∧ Below w0.heap.size w0 w') := Lib.hid fun w0 h => anone_any w0 h
  have CJ : Hid (∀ (k : Nat) w0, k < 4 → w0.rangeAt 0 0 (u32s ks) → Calls Tryd.prog 23 #[.int .i64 ((k + 1 : Nat) : Int), .agg (u8s (bareD k)).toArray, .agg (u8s (bareD k)).toArray] w0 fun e w' => e = .returned (.agg (u8s (bareD (k + 1))).toArray) ∧ Below w0.heap.size w0 w') := Lib.hid fun k w0 hk4 h => join_any (k + 1) _ _ w0 (by omega) (bareD_ok k) (bareD_ok k) h
  have CR : Hid (∀ (B mb : Nat) w0, TrAt w0 B mb bare → w0.rangeAt 0 0 (u32s ks) → Calls Tryd.prog 19 #[.pointer (some ⟨B, 0, none⟩)] w0 fun e w' => e = .returned (.agg (u8s (bareD 4)).toArray) ∧ Below w0.heap.size w0 w') := Lib.hid fun B mb w0 h0 h => by
    have := root_any B mb bare w0 h0 good_bare h
    rw [bare_root] at this
    exact this
  have CR1 : Hid (∀ (B mb : Nat) w0, TrAt w0 B mb oneT → w0.rangeAt 0 0 (u32s ks) → Calls Tryd.prog 19 #[.pointer (some ⟨B, 0, none⟩)] w0 fun e w' => e = .returned (.agg (u8s (rootD oneT)).toArray) ∧ Below w0.heap.size w0 w') := Lib.hid fun B mb w0 h0 h => root_any B mb oneT w0 h0 good_one h
  have hp5 : Is64 (5 : Int) := by decide
  have hp16 : Is64 (16 : Int) := by decide
  have CS : Hid (∀ (B mb : Nat) w0, TrAt w0 B mb bare → Calls Tryd.prog 24 #[.pointer (some ⟨B, 0, none⟩), .int .i64 5, .agg (acs aA).toArray] w0 fun e w' => e = .returned (.int .i64 0) ∧ TrAt w' B mb oneT ∧ Only mb w0 w') := Lib.hid fun B mb w0 h0 => (set_any B mb bare 5 aA w0 h0 hp5).mono fun e w' h => ⟨by
    have h1 := h.ret
    rw [show setE (5 : Int) aA = 0 from if_pos ⟨by omega, aA_rt⟩] at h1
    exact h1, h.tr.congr setM_one, h.ow⟩
  have CS16 : Hid (∀ (B mb : Nat) w0, TrAt w0 B mb bare → Calls Tryd.prog 24 #[.pointer (some ⟨B, 0, none⟩), .int .i64 16, .agg (acs aA).toArray] w0 fun e w' => e = .returned (.int .i64 1) ∧ TrAt w' B mb bare ∧ Only mb w0 w') := Lib.hid fun B mb w0 h0 => (set_any B mb bare 16 aA w0 h0 hp16).mono fun e w' h => ⟨by
    have h1 := h.ret
    rw [show setE (16 : Int) aA = 1 from if_neg fun h => by have := h.1.2; omega] at h1
    exact h1, h.tr.congr setM_far0, h.ow⟩
  have CD1 : Hid (∀ (B mb : Nat) w0, TrAt w0 B mb oneT → Calls Tryd.prog 25 #[.pointer (some ⟨B, 0, none⟩), .int .i64 5] w0 fun e w' => e = .returned (.bool true) ∧ TrAt w' B mb bare ∧ Only mb w0 w') := Lib.hid fun B mb w0 h0 => (drop_any B mb oneT 5 w0 h0 hp5).mono fun e w' h => ⟨h.ret, h.tr.congr dropM_one, h.ow⟩
  have CD2 : Hid (∀ (B mb : Nat) w0, TrAt w0 B mb bare → Calls Tryd.prog 25 #[.pointer (some ⟨B, 0, none⟩), .int .i64 5] w0 fun e w' => e = .returned (.bool false) ∧ TrAt w' B mb bare ∧ Only mb w0 w') := Lib.hid fun B mb w0 h0 => (drop_any B mb bare 5 w0 h0 hp5).mono fun e w' h => ⟨h.ret, h.tr.congr dropM_bare, h.ow⟩
  have CG : Hid (∀ (B mb : Nat) w0, TrAt w0 B mb oneT → Calls Tryd.prog 15 #[.pointer (some ⟨B, 0, none⟩), .int .i64 5] w0 fun e w' => e = .returned (.tuple #[.agg (acs aA).toArray, .bool true]) ∧ Below w0.heap.size w0 w') := Lib.hid fun B mb w0 h0 => (get_any B mb oneT 5 w0 h0 hp5).mono fun e w' h => ⟨h.ret, h.bel⟩
  have CL : Hid (∀ (B mb : Nat) w0, TrAt w0 B mb oneT → Calls Tryd.prog 13 #[.pointer (some ⟨B, 0, none⟩)] w0 fun e w' => e = .returned (.int .i64 1) ∧ Below w0.heap.size w0 w') := Lib.hid fun B mb w0 h0 => (len_any B mb oneT w0 h0 good_one).mono fun e w' h => ⟨by have h1 := h.1; rw [cnt_one] at h1; exact h1, h.2⟩
  obtain ⟨pp, hpp⟩ : ∃ pp, pp = pathI oneT (4 : Int) := ⟨_, rfl⟩
  have CP : Hid (∀ (B mb : Nat) w0, TrAt w0 B mb oneT → w0.rangeAt 0 0 (u32s ks) → Calls Tryd.prog 17 #[.pointer (some ⟨B, 0, none⟩), .int .i64 4] w0 fun e w' => e = .returned (.tuple #[.agg (dgC pp).toArray, .int .i64 0]) ∧ Below w0.heap.size w0 w') := Lib.hid fun B mb w0 h0 h => (path_any B mb oneT 4 w0 h0 good_one h).mono fun e w' h => ⟨by have h1 := h.ret; rw [← hpp] at h1; exact h1, h.bel⟩
  have CH : Hid (∀ w0, w0.rangeAt 0 0 (u32s ks) → Calls Tryd.prog 22 #[.agg (acs aA).toArray] w0 fun e w' => e = .returned (.tuple #[.agg (u8s (digA aA)).toArray, .int .i64 0]) ∧ Below w0.heap.size w0 w') := Lib.hid fun w0 h => (ahash_any aA w0 aA_ok h).mono fun e w' h => ⟨by
    have h3 := h.ret
    rw [show ansH aA = digA aA from if_pos aA_rt, show ansE aA = 0 from if_pos aA_rt] at h3
    exact h3, h.bel⟩
  have BX : Hid (Tryd.prog.built 36 [(0, .string ⟨#[97]⟩)] = some (acs aA).toArray) := Lib.hid (by kernel_rfl)
  have PO := Lib.hid (show ∀ x ∈ pp, H32 x by rw [hpp]; exact pathI_ok _ _)
  have PL := Lib.hid (show pp.length = 4 by rw [hpp]; exact pathI_len _ _)
  have P0 := Lib.hid (show pp[0]? = some (digA aA) by rw [hpp, path_one]; rfl)
  have KP := Lib.hid (sz_path PO.out PL.out)
  have NE : Hid (rootD oneT ≠ bareD 4) := Lib.hid (by have := roots_ne; rw [bare_root] at this; exact this)
  have KO := Lib.hid (root_ok oneT); have KA := Lib.hid (digA_ok aA); have KB := Lib.hid (bareD_ok 4)
  have AX := Lib.hid (sz_acc aA)
  clear hk hk1 hp5 hp16 hpp
  generalize rootD oneT = r1 at CR1 NE KO
  have HA0 : Hid ((acs aA)[0]? = some (.string ⟨#[97]⟩)) := Lib.hid rfl
  obtain ⟨x, hx⟩ : ∃ x, x = acs aA := ⟨_, rfl⟩
  have XF := Lib.hid (fitA aA); have XO := Lib.hid (acs_one aA); have XL := Lib.hid (allA aA)
  rw [← hx] at CS CS16 CG CH BX AX HA0 XF XO XL
  clear hx
  generalize digA aA = da at CH P0 KA
  go_enter Tryd.func7, Tryd.ntmps7
  go_wp2_with fail
  refine (CN.out _ (HKW.out _ (Below.refl _ _))).mono ?_
  rintro e y1 ⟨⟨B, mb, rfl, hT, geB, gemb⟩, hB⟩
  have bel_2 : Below w.heap.size w y1 := hB
  clear hB
  go_wp2_with fail
  refine (CM.out _ (HKW.out _ bel_2)).mono ?_
  rintro e y3 ⟨rfl, hB⟩
  have T_4 : TrAt y3 B mb (bare) := hT.old hB
  have bel_4 : Below w.heap.size w y3 := below_step bel_2 bel_2.size hB
  clear hT bel_2 hB
  go_wp2_with (first
    | ((with_reducible refine at_slot 2 ?_); (refine arm_alloc (o := ⟨some 2, _, _, _, _, _⟩) rfl _ rfl (u8s zh) zH ?_); intro D v5a De hDa nD)
    | ((with_reducible refine arm_store (o := ⟨none, _, _, _, _, _⟩) rfl _ _ _ rfl D 0 rfl (u8s (bareD 0)) rfl _ _ hDa (fitH (bareD_ok 0)) (u8s_one _) (szH (bareD_ok 0)) ?_); intro v5 hDb oD sD))
  have lD : y3.heap.size ≤ D := by have := De.out; omega
  have bD : Below y3.heap.size y3 v5 := below_only nD.below oD lD nD.below.size
  have rrD : Row v5 D 50 (u8s (bareD 0)) := hDb.congr (allH (bareD_ok 0))
  have geD : w.heap.size ≤ D := Nat.le_trans bel_4.size lD
  clear hDa hDb nD oD sD De lD
  have T_6 : TrAt v5 B mb (bare) := T_4.old bD
  have bel_6 : Below w.heap.size w v5 := below_step bel_4 bel_4.size bD
  clear T_4 bel_4 bD
  try simp only [Act.put]
  have h0 : AwRel w B mb D (.int .i64 1) v5 := ⟨⟨0, by omega, rfl, rrD⟩, T_6, bel_6⟩
  clear rrD T_6 bel_6 CN CM
  go_loopw [3] (fun i wr => AwRel w B mb D i wr) (fun i _ => 5 - (intOf i).toNat)
  case atStart => exact h0
  case round =>
    clear h0
    obtain ⟨⟨k, hk, rfl, hrow⟩, htr, bel⟩ := hrel
    by_cases hlt : k < 4
    · have ik : ((k + 1 : Nat) : Int) ≤ 4 := by omega
      have KK := Lib.hid (bareD_ok k); have KK1 := Lib.hid (bareD_ok (k + 1)); have CJ := Lib.hid (fun w0 => CJ.out k w0 hlt)
      have HW : Hid (IntKind.i64.wrap (((k + 1 : Nat) : Int) + 1) = ((k + 2 : Nat) : Int)) := Lib.hid (by rw [IntKind.wrap_i64]; omega)
      obtain ⟨n, hn⟩ : ∃ n, n = k + 1 := ⟨_, rfl⟩
      have HN := Lib.hid hn
      have HDN : Hid (bareD n = bareD (k + 1)) := Lib.hid (by rw [hn])
      rw [← hn] at ik CJ KK1 HW ⊢
      clear hn
      go_wp2_with (first
        | ((with_reducible refine at_slot 17 ?_); (refine arm_want (.bool true) 17 rfl (by kernel_rfl) (cmp_leq _ _ _ _ rfl .i64 ((n : Int)) (4) rfl rfl true (decide_eq_true ik) _) ?_))
        | ((with_reducible refine at_slot 21 ?_); (refine arm_load (o := ⟨some 21, _, _, _, _, _⟩) rfl _ _ rfl D 0 rfl (u8s (bareD k)) (((Has.refl _)).range hrow) (szH KK.out) ?_))
        | ((with_reducible refine at_slot 22 ?_); (refine arm_load (o := ⟨some 22, _, _, _, _, _⟩) rfl _ _ rfl D 0 rfl (u8s (bareD k)) (((Has.refl _)).range hrow) (szH KK.out) ?_)))
      refine (CJ.out _ (HKW.out _ bel)).mono ?_
      rintro e y101 ⟨rfl, hB⟩
      have D_102 : Row y101 D 50 (u8s (bareD k)) := hrow.old hB
      have T_102 : TrAt y101 B mb (bare) := htr.old hB
      have bel_102 : Below w.heap.size w y101 := below_step bel bel.size hB
      clear hrow htr bel hB
      have hTD : B ≠ D := fun e => by subst e; exact tree_ne_dig T_102 D_102
      have hMD : mb ≠ D := T_102.map.row D_102
      go_wp2_with (first
        | ((with_reducible refine arm_store (o := ⟨none, _, _, _, _, _⟩) rfl _ _ _ rfl D 0 rfl (u8s (bareD n)) rfl _ _ (D_102) (by rw [h_len KK1.out, h_len KK.out]; omega) (u8s_one _) (szH KK1.out) ?_); intro y9 hy9 oy9 sy9)
        | ((with_reducible refine at_slot 19 ?_); (refine arm_want (.int .i64 ((k + 2 : Nat) : Int)) 19 rfl (by kernel_rfl) (run_op_addK _ _ _ _ rfl _ _ _ rfl rfl HW.out _) ?_)))
      try simp only [Act.put]
      go_roundw
      case rel => exact ⟨⟨k + 1, by omega, by first | rfl | go_num, by have := hy9.congr (lay_all _ _ (by rw [h_len KK1.out, h_len KK.out])); rw [HDN.out] at this; exact this⟩, T_102.only oy9 hTD hMD, below_only bel_102 oy9 geD bel_102.size⟩
      case measure => have := HN.out; simp [intOf]; omega
    · obtain rfl : k = 4 := by omega
      go_wp2_with (first
        | ((with_reducible refine at_slot 17 ?_); (refine arm_want (.bool false) 17 rfl (by kernel_rfl) (cmp_leq _ _ _ _ rfl .i64 (((4 + 1 : Nat) : Int)) (4) rfl rfl false (by decide) _) ?_)))
      refine (CR.out B mb _ htr (HKW.out _ bel)).mono ?_
      rintro e y201 ⟨rfl, hB⟩
      have D_202 : Row y201 D 50 (u8s (bareD 4)) := hrow.old hB
      have T_202 : TrAt y201 B mb (bare) := htr.old hB
      have bel_202 : Below w.heap.size w y201 := below_step bel bel.size hB
      clear hrow htr bel hB
      go_wp2_with (first
        | ((with_reducible refine at_slot 4 ?_); (refine arm_alloc (o := ⟨some 4, _, _, _, _, _⟩) rfl _ rfl (u8s zh) zH ?_); intro E v203a Ee hEa nE)
        | ((with_reducible refine arm_store (o := ⟨none, _, _, _, _, _⟩) rfl _ _ _ rfl E 0 rfl (u8s (bareD 4)) rfl _ _ hEa (fitH KB.out) (u8s_one _) (szH KB.out) ?_); intro v203 hEb oE sE)
        | ((with_reducible refine at_slot 27 ?_); (refine arm_build (o := ⟨some 27, _, _, _, _, _⟩) rfl _ _ rfl x (by simp only [List.map_toArray, List.map_cons, List.map_nil]; exact BX.out) ?_)))
      have lE : y201.heap.size ≤ E := by have := Ee.out; omega
      have bE : Below y201.heap.size y201 v203 := below_only nE.below oE lE nE.below.size
      have rrE : Row v203 E 50 (u8s (bareD 4)) := hEb.congr (allH KB.out)
      have geE : w.heap.size ≤ E := Nat.le_trans bel_202.size lE
      clear hEa hEb nE oE sE Ee lE
      have D_204 : Row v203 D 50 (u8s (bareD 4)) := D_202.old bE
      have T_204 : TrAt v203 B mb (bare) := T_202.old bE
      have bel_204 : Below w.heap.size w v203 := below_step bel_202 bel_202.size bE
      clear D_202 T_202 bel_202 bE
      refine (CS.out B mb _ T_204).mono ?_
      rintro e y205 ⟨rfl, hT, hO⟩
      have D_206 : Row y205 D 50 (u8s (bareD 4)) := D_204.only hO (Ne.symm (T_204.map.row D_204))
      have T_206 : TrAt y205 B mb oneT := hT
      have E_206 : Row y205 E 50 (u8s (bareD 4)) := rrE.only hO (Ne.symm (T_204.map.row rrE))
      have bel_206 : Below w.heap.size w y205 := below_only bel_204 hO gemb bel_204.size
      clear D_204 T_204 rrE bel_204 hO
      go_wp2_with fail
      refine (CG.out B mb _ T_206).mono ?_
      rintro e y207 ⟨rfl, hB⟩
      have D_208 : Row y207 D 50 (u8s (bareD 4)) := D_206.old hB
      have T_208 : TrAt y207 B mb oneT := T_206.old hB
      have E_208 : Row y207 E 50 (u8s (bareD 4)) := E_206.old hB
      have bel_208 : Below w.heap.size w y207 := below_step bel_206 bel_206.size hB
      clear D_206 T_206 E_206 bel_206 hB
      go_wp2_with (first
        | ((with_reducible refine at_slot 6 ?_); (refine arm_alloc (o := ⟨some 6, _, _, _, _, _⟩) rfl _ rfl (acs za) z_acc ?_); intro A v209a Ae hAa nA)
        | ((with_reducible refine arm_store (o := ⟨none, _, _, _, _, _⟩) rfl _ _ _ rfl A 0 rfl (x) rfl _ _ hAa XF.out XO.out AX.out ?_); intro v209 hAb oA sA))
      have lA : y207.heap.size ≤ A := by have := Ae.out; omega
      have bA : Below y207.heap.size y207 v209 := below_only nA.below oA lA nA.below.size
      have rrA : Row v209 A 36 (x) := hAb.congr XL.out
      have geA : w.heap.size ≤ A := Nat.le_trans bel_208.size lA
      clear hAa hAb nA oA sA Ae lA
      have D_210 : Row v209 D 50 (u8s (bareD 4)) := D_208.old bA
      have T_210 : TrAt v209 B mb oneT := T_208.old bA
      have E_210 : Row v209 E 50 (u8s (bareD 4)) := E_208.old bA
      have bel_210 : Below w.heap.size w v209 := below_step bel_208 bel_208.size bA
      clear D_208 T_208 E_208 bel_208 bA
      refine (CP.out B mb _ T_210 (HKW.out _ bel_210)).mono ?_
      rintro e y211 ⟨rfl, hB⟩
      have D_212 : Row y211 D 50 (u8s (bareD 4)) := D_210.old hB
      have T_212 : TrAt y211 B mb oneT := T_210.old hB
      have E_212 : Row y211 E 50 (u8s (bareD 4)) := E_210.old hB
      have A_212 : Row y211 A 36 (x) := rrA.old hB
      have bel_212 : Below w.heap.size w y211 := below_step bel_210 bel_210.size hB
      clear D_210 T_210 E_210 rrA bel_210 hB
      go_wp2_with (first
        | ((with_reducible refine at_slot 8 ?_); (refine arm_alloc (o := ⟨some 8, _, _, _, _, _⟩) rfl _ rfl (dgC z4) z_path ?_); intro P v213a Pe hPa nP)
        | ((with_reducible refine arm_store (o := ⟨none, _, _, _, _, _⟩) rfl _ _ _ rfl P 0 rfl (dgC pp) rfl _ _ hPa (fitP PO.out PL.out) (dgC_ones _) KP.out ?_); intro v213 hPb oP sP)
        | ((with_reducible refine at_slot 40 ?_); (refine arm_load (o := ⟨some 40, _, _, _, _, _⟩) rfl _ _ rfl A 0 rfl (x) ((Has.refl _).range ((A_212.old nP.below).only oP (by have := Pe.out; have := A_212.lt; omega))) AX.out ?_)))
      have lP : y211.heap.size ≤ P := by have := Pe.out; omega
      have bP : Below y211.heap.size y211 v213 := below_only nP.below oP lP nP.below.size
      have rrP : Row v213 P 52 (dgC pp) := hPb.congr (allP PO.out PL.out)
      have geP : w.heap.size ≤ P := Nat.le_trans bel_212.size lP
      clear hPa hPb nP oP sP Pe lP
      have D_214 : Row v213 D 50 (u8s (bareD 4)) := D_212.old bP
      have T_214 : TrAt v213 B mb oneT := T_212.old bP
      have E_214 : Row v213 E 50 (u8s (bareD 4)) := E_212.old bP
      have A_214 : Row v213 A 36 (x) := A_212.old bP
      have bel_214 : Below w.heap.size w v213 := below_step bel_212 bel_212.size bP
      clear D_212 T_212 E_212 A_212 bel_212 bP
      refine (CH.out _ (HKW.out _ bel_214)).mono ?_
      rintro e y215 ⟨rfl, hB⟩
      have D_216 : Row y215 D 50 (u8s (bareD 4)) := D_214.old hB
      have T_216 : TrAt y215 B mb oneT := T_214.old hB
      have E_216 : Row y215 E 50 (u8s (bareD 4)) := E_214.old hB
      have A_216 : Row y215 A 36 (x) := A_214.old hB
      have P_216 : Row y215 P 52 (dgC pp) := rrP.old hB
      have bel_216 : Below w.heap.size w y215 := below_step bel_214 bel_214.size hB
      clear D_214 T_214 E_214 A_214 rrP bel_214 hB
      go_wp2_with (first
        | ((with_reducible refine at_slot 10 ?_); (refine arm_alloc (o := ⟨some 10, _, _, _, _, _⟩) rfl _ rfl (u8s zh) zH ?_); intro G v217a Ge hGa nG)
        | ((with_reducible refine arm_store (o := ⟨none, _, _, _, _, _⟩) rfl _ _ _ rfl G 0 rfl (u8s da) rfl _ _ hGa (fitH KA.out) (u8s_one _) (szH KA.out) ?_); intro v217 hGb oG sG))
      have lG : y215.heap.size ≤ G := by have := Ge.out; omega
      have bG : Below y215.heap.size y215 v217 := below_only nG.below oG lG nG.below.size
      have rrG : Row v217 G 50 (u8s da) := hGb.congr (allH KA.out)
      have geG : w.heap.size ≤ G := Nat.le_trans bel_216.size lG
      clear hGa hGb nG oG sG Ge lG
      have D_218 : Row v217 D 50 (u8s (bareD 4)) := D_216.old bG
      have T_218 : TrAt v217 B mb oneT := T_216.old bG
      have E_218 : Row v217 E 50 (u8s (bareD 4)) := E_216.old bG
      have A_218 : Row v217 A 36 (x) := A_216.old bG
      have P_218 : Row v217 P 52 (dgC pp) := P_216.old bG
      have bel_218 : Below w.heap.size w v217 := below_step bel_216 bel_216.size bG
      clear D_216 T_216 E_216 A_216 P_216 bel_216 bG
      refine wp_region_held (S := fun w' => Row w' E 50 (u8s (bareD 4)) ∧ Row w' D 50 (u8s (bareD 4)) ∧ Row w' A 36 (x) ∧ Row w' P 52 (dgC pp) ∧ Row w' G 50 (u8s da) ∧ True) (by kernel_rfl) ?_
      change wpAnyH _ _ _ _ _ _ _ _ v217.drew
      have hd219 : Below v217.heap.size v217 v217.drew := (Below.refl _ _).drew
      have D_220 : Row v217.drew D 50 (u8s (bareD 4)) := D_218.old hd219
      have T_220 : TrAt v217.drew B mb oneT := T_218.old hd219
      have E_220 : Row v217.drew E 50 (u8s (bareD 4)) := E_218.old hd219
      have A_220 : Row v217.drew A 36 (x) := A_218.old hd219
      have P_220 : Row v217.drew P 52 (dgC pp) := P_218.old hd219
      have G_220 : Row v217.drew G 50 (u8s da) := rrG.old hd219
      have bel_220 : Below w.heap.size w v217.drew := below_step bel_218 bel_218.size hd219
      clear D_218 T_218 E_218 A_218 P_218 rrG bel_218 hd219
      generalize v217.drew = yz219 at D_220 T_220 E_220 A_220 P_220 G_220 bel_220 ⊢
      refine h_take 0 (.agg (u8s (bareD 4)).toArray) rfl 44 rfl (by kernel_rfl) (by kernel_rfl) (by kernel_rfl) (by kernel_rfl) (fun _ _ _ h => h) (fun w' hw => run_op_load _ _ rfl E (0) rfl (u8s (bareD 4)) (((Has.refl _)).range hw.1) (szH KB.out)) ⟨E_220, D_220, A_220, P_220, G_220, trivial⟩ ?_
      simp only [Act.put, List.setIfInBounds_toArray, List.set_cons_zero, List.set_cons_succ]
      refine h_take 1 (.agg (u8s (bareD 4)).toArray) rfl 45 rfl (by kernel_rfl) (by kernel_rfl) (by kernel_rfl) (by kernel_rfl) (fun _ _ _ h => h) (fun w' hw => run_op_load _ _ rfl D (0) rfl (u8s (bareD 4)) (((Has.refl _)).range hw.2.1) (szH KB.out)) ⟨E_220, D_220, A_220, P_220, G_220, trivial⟩ ?_
      simp only [Act.put, List.setIfInBounds_toArray, List.set_cons_zero, List.set_cons_succ]
      refine h_take 2 (.bool true) rfl 46 rfl (by kernel_rfl) (by kernel_rfl) (by kernel_rfl) (by kernel_rfl) (fun _ _ _ h => h) (fun w' _ => run_op_eqlD KB.out KB.out _ _ _ rfl rfl rfl true ⟨fun _ => rfl, fun _ => rfl⟩ w') ⟨E_220, D_220, A_220, P_220, G_220, trivial⟩ ?_
      simp only [Act.put, List.setIfInBounds_toArray, List.set_cons_zero, List.set_cons_succ]
      refine h_take 3 (.bool true) rfl 47 rfl (by kernel_rfl) (by kernel_rfl) (by kernel_rfl) (by kernel_rfl) (fun _ _ _ h => h) (fun w' _ => by kernel_rfl) ⟨E_220, D_220, A_220, P_220, G_220, trivial⟩ ?_
      simp only [Act.put, List.setIfInBounds_toArray, List.set_cons_zero, List.set_cons_succ]
      refine h_take 4 (.int .i64 0) rfl 48 rfl (by kernel_rfl) (by kernel_rfl) (by kernel_rfl) (by kernel_rfl) (fun _ _ _ h => h) (fun w' _ => by kernel_rfl) ⟨E_220, D_220, A_220, P_220, G_220, trivial⟩ ?_
      simp only [Act.put, List.setIfInBounds_toArray, List.set_cons_zero, List.set_cons_succ]
      refine h_take 5 (.bool true) rfl 49 rfl (by kernel_rfl) (by kernel_rfl) (by kernel_rfl) (by kernel_rfl) (fun _ _ _ h => h) (fun w' _ => by kernel_rfl) ⟨E_220, D_220, A_220, P_220, G_220, trivial⟩ ?_
      simp only [Act.put, List.setIfInBounds_toArray, List.set_cons_zero, List.set_cons_succ]
      refine h_take 6 (.bool true) rfl 50 rfl (by kernel_rfl) (by kernel_rfl) (by kernel_rfl) (by kernel_rfl) (fun _ _ _ h => h) (fun w' _ => by kernel_rfl) ⟨E_220, D_220, A_220, P_220, G_220, trivial⟩ ?_
      simp only [Act.put, List.setIfInBounds_toArray, List.set_cons_zero, List.set_cons_succ]
      refine h_take 7 (.bool true) rfl 51 rfl (by kernel_rfl) (by kernel_rfl) (by kernel_rfl) (by kernel_rfl) (fun _ _ _ h => h) (fun w' _ => by kernel_rfl) ⟨E_220, D_220, A_220, P_220, G_220, trivial⟩ ?_
      simp only [Act.put, List.setIfInBounds_toArray, List.set_cons_zero, List.set_cons_succ]
      refine h_take 8 (.pointer (some ⟨A, 0, none⟩)) rfl 52 rfl (by kernel_rfl) (by kernel_rfl) (by kernel_rfl) (by kernel_rfl) (fun _ _ _ h => h) (fun w' _ => by kernel_rfl) ⟨E_220, D_220, A_220, P_220, G_220, trivial⟩ ?_
      simp only [Act.put, List.setIfInBounds_toArray, List.set_cons_zero, List.set_cons_succ]
      refine h_take 9 (.string ⟨#[97]⟩) rfl 53 rfl (by kernel_rfl) (by kernel_rfl) (by kernel_rfl) (by kernel_rfl) (fun _ _ _ h => h) (fun w' hw => run_op_load1 _ _ rfl .string (by kernel_rfl) rfl ⟨A, 0, none⟩ rfl _ (hw.2.2.1.cell HA0.out)) ⟨E_220, D_220, A_220, P_220, G_220, trivial⟩ ?_
      simp only [Act.put, List.setIfInBounds_toArray, List.set_cons_zero, List.set_cons_succ]
      refine h_take 10 (.bool true) rfl 54 rfl (by kernel_rfl) (by kernel_rfl) (by kernel_rfl) (by kernel_rfl) (fun _ _ _ h => h) (fun w' _ => by kernel_rfl) ⟨E_220, D_220, A_220, P_220, G_220, trivial⟩ ?_
      simp only [Act.put, List.setIfInBounds_toArray, List.set_cons_zero, List.set_cons_succ]
      refine h_take 11 (.bool true) rfl 55 rfl (by kernel_rfl) (by kernel_rfl) (by kernel_rfl) (by kernel_rfl) (fun _ _ _ h => h) (fun w' _ => by kernel_rfl) ⟨E_220, D_220, A_220, P_220, G_220, trivial⟩ ?_
      simp only [Act.put, List.setIfInBounds_toArray, List.set_cons_zero, List.set_cons_succ]
      refine h_take 12 (.bool true) rfl 56 rfl (by kernel_rfl) (by kernel_rfl) (by kernel_rfl) (by kernel_rfl) (fun _ _ _ h => h) (fun w' _ => by kernel_rfl) ⟨E_220, D_220, A_220, P_220, G_220, trivial⟩ ?_
      simp only [Act.put, List.setIfInBounds_toArray, List.set_cons_zero, List.set_cons_succ]
      refine h_take 13 (.bool true) rfl 57 rfl (by kernel_rfl) (by kernel_rfl) (by kernel_rfl) (by kernel_rfl) (fun _ _ _ h => h) (fun w' _ => by kernel_rfl) ⟨E_220, D_220, A_220, P_220, G_220, trivial⟩ ?_
      simp only [Act.put, List.setIfInBounds_toArray, List.set_cons_zero, List.set_cons_succ]
      refine h_take 14 (.bool true) rfl 58 rfl (by kernel_rfl) (by kernel_rfl) (by kernel_rfl) (by kernel_rfl) (fun _ _ _ h => h) (fun w' _ => by kernel_rfl) ⟨E_220, D_220, A_220, P_220, G_220, trivial⟩ ?_
      simp only [Act.put, List.setIfInBounds_toArray, List.set_cons_zero, List.set_cons_succ]
      refine h_take 15 (.bool true) rfl 59 rfl (by kernel_rfl) (by kernel_rfl) (by kernel_rfl) (by kernel_rfl) (fun _ _ _ h => h) (fun w' _ => by kernel_rfl) ⟨E_220, D_220, A_220, P_220, G_220, trivial⟩ ?_
      simp only [Act.put, List.setIfInBounds_toArray, List.set_cons_zero, List.set_cons_succ]
      refine h_take 16 (.int .i64 0) rfl 60 rfl (by kernel_rfl) (by kernel_rfl) (by kernel_rfl) (by kernel_rfl) (fun _ _ _ h => h) (fun w' _ => by kernel_rfl) ⟨E_220, D_220, A_220, P_220, G_220, trivial⟩ ?_
      simp only [Act.put, List.setIfInBounds_toArray, List.set_cons_zero, List.set_cons_succ]
      refine h_take 17 (.bool true) rfl 61 rfl (by kernel_rfl) (by kernel_rfl) (by kernel_rfl) (by kernel_rfl) (fun _ _ _ h => h) (fun w' _ => by kernel_rfl) ⟨E_220, D_220, A_220, P_220, G_220, trivial⟩ ?_
      simp only [Act.put, List.setIfInBounds_toArray, List.set_cons_zero, List.set_cons_succ]
      refine h_take 18 (.bool true) rfl 62 rfl (by kernel_rfl) (by kernel_rfl) (by kernel_rfl) (by kernel_rfl) (fun _ _ _ h => h) (fun w' _ => by kernel_rfl) ⟨E_220, D_220, A_220, P_220, G_220, trivial⟩ ?_
      simp only [Act.put, List.setIfInBounds_toArray, List.set_cons_zero, List.set_cons_succ]
      refine h_take 19 (.bool true) rfl 63 rfl (by kernel_rfl) (by kernel_rfl) (by kernel_rfl) (by kernel_rfl) (fun _ _ _ h => h) (fun w' _ => by kernel_rfl) ⟨E_220, D_220, A_220, P_220, G_220, trivial⟩ ?_
      simp only [Act.put, List.setIfInBounds_toArray, List.set_cons_zero, List.set_cons_succ]
      refine h_take 20 (.int .i64 0) rfl 64 rfl (by kernel_rfl) (by kernel_rfl) (by kernel_rfl) (by kernel_rfl) (fun _ _ _ h => h) (fun w' _ => by kernel_rfl) ⟨E_220, D_220, A_220, P_220, G_220, trivial⟩ ?_
      simp only [Act.put, List.setIfInBounds_toArray, List.set_cons_zero, List.set_cons_succ]
      refine h_take 21 (.bool true) rfl 65 rfl (by kernel_rfl) (by kernel_rfl) (by kernel_rfl) (by kernel_rfl) (fun _ _ _ h => h) (fun w' _ => by kernel_rfl) ⟨E_220, D_220, A_220, P_220, G_220, trivial⟩ ?_
      simp only [Act.put, List.setIfInBounds_toArray, List.set_cons_zero, List.set_cons_succ]
      refine h_take 22 (.bool true) rfl 66 rfl (by kernel_rfl) (by kernel_rfl) (by kernel_rfl) (by kernel_rfl) (fun _ _ _ h => h) (fun w' _ => by kernel_rfl) ⟨E_220, D_220, A_220, P_220, G_220, trivial⟩ ?_
      simp only [Act.put, List.setIfInBounds_toArray, List.set_cons_zero, List.set_cons_succ]
      refine h_take 23 (.bool true) rfl 67 rfl (by kernel_rfl) (by kernel_rfl) (by kernel_rfl) (by kernel_rfl) (fun _ _ _ h => h) (fun w' _ => by kernel_rfl) ⟨E_220, D_220, A_220, P_220, G_220, trivial⟩ ?_
      simp only [Act.put, List.setIfInBounds_toArray, List.set_cons_zero, List.set_cons_succ]
      refine h_take 24 (.pointer (some ⟨P, 0, none⟩)) rfl 68 rfl (by kernel_rfl) (by kernel_rfl) (by kernel_rfl) (by kernel_rfl) (fun _ _ _ h => h) (fun w' _ => by kernel_rfl) ⟨E_220, D_220, A_220, P_220, G_220, trivial⟩ ?_
      simp only [Act.put, List.setIfInBounds_toArray, List.set_cons_zero, List.set_cons_succ]
      refine h_take 25 (.agg (u8s da).toArray) rfl 69 rfl (by kernel_rfl) (by kernel_rfl) (by kernel_rfl) (by kernel_rfl) (fun _ _ _ h => h) (fun w' hw => run_op_load _ _ rfl P (0) rfl (u8s da) (((show Has (dgC pp) 0 (u8s da) from path_has PO.out P0.out)).range hw.2.2.2.1) (szH KA.out)) ⟨E_220, D_220, A_220, P_220, G_220, trivial⟩ ?_
      simp only [Act.put, List.setIfInBounds_toArray, List.set_cons_zero, List.set_cons_succ]
      refine h_take 26 (.agg (u8s da).toArray) rfl 70 rfl (by kernel_rfl) (by kernel_rfl) (by kernel_rfl) (by kernel_rfl) (fun _ _ _ h => h) (fun w' hw => run_op_load _ _ rfl G (0) rfl (u8s da) (((Has.refl _)).range hw.2.2.2.2.1) (szH KA.out)) ⟨E_220, D_220, A_220, P_220, G_220, trivial⟩ ?_
      simp only [Act.put, List.setIfInBounds_toArray, List.set_cons_zero, List.set_cons_succ]
      refine h_take 27 (.bool true) rfl 71 rfl (by kernel_rfl) (by kernel_rfl) (by kernel_rfl) (by kernel_rfl) (fun _ _ _ h => h) (fun w' _ => run_op_eqlD KA.out KA.out _ _ _ rfl rfl rfl true ⟨fun _ => rfl, fun _ => rfl⟩ w') ⟨E_220, D_220, A_220, P_220, G_220, trivial⟩ ?_
      simp only [Act.put, List.setIfInBounds_toArray, List.set_cons_zero, List.set_cons_succ]
      refine h_take 28 (.bool true) rfl 72 rfl (by kernel_rfl) (by kernel_rfl) (by kernel_rfl) (by kernel_rfl) (fun _ _ _ h => h) (fun w' _ => by kernel_rfl) ⟨E_220, D_220, A_220, P_220, G_220, trivial⟩ ?_
      simp only [Act.put, List.setIfInBounds_toArray, List.set_cons_zero, List.set_cons_succ]
      refine h_take 29 (.bool true) rfl 73 rfl (by kernel_rfl) (by kernel_rfl) (by kernel_rfl) (by kernel_rfl) (fun _ _ _ h => h) (fun w' _ => by kernel_rfl) ⟨E_220, D_220, A_220, P_220, G_220, trivial⟩ ?_
      simp only [Act.put, List.setIfInBounds_toArray, List.set_cons_zero, List.set_cons_succ]
      refine h_take 30 (.pointer (some ⟨B, 0, none⟩)) rfl 74 rfl (by kernel_rfl) (by kernel_rfl) (by kernel_rfl) (by kernel_rfl) (fun _ _ _ h => h) (fun w' _ => by kernel_rfl) ⟨E_220, D_220, A_220, P_220, G_220, trivial⟩ ?_
      simp only [Act.put, List.setIfInBounds_toArray, List.set_cons_zero, List.set_cons_succ]
      refine h_one (i := 31) (by kernel_rfl) (o_call rfl 75 rfl (by kernel_rfl) (run_op_call 13 _ _ rfl #[.pointer (some ⟨B, 0, none⟩)] (by simp only [List.map_toArray, List.map_cons, List.map_nil]; rfl) Tryd.func13 (by kernel_rfl) (by kernel_rfl) _) (CL.out B mb _ T_220) ?_)
      rintro e y221 ⟨rfl, hB⟩
      have D_222 : Row y221 D 50 (u8s (bareD 4)) := D_220.old hB
      have T_222 : TrAt y221 B mb oneT := T_220.old hB
      have E_222 : Row y221 E 50 (u8s (bareD 4)) := E_220.old hB
      have A_222 : Row y221 A 36 (x) := A_220.old hB
      have P_222 : Row y221 P 52 (dgC pp) := P_220.old hB
      have G_222 : Row y221 G 50 (u8s da) := G_220.old hB
      have bel_222 : Below w.heap.size w y221 := below_step bel_220 bel_220.size hB
      clear D_220 T_220 E_220 A_220 P_220 G_220 bel_220 hB
      refine ⟨_, rfl, ⟨E_222, D_222, A_222, P_222, G_222, trivial⟩, ?_⟩
      simp only [Act.put, List.setIfInBounds_toArray, List.set_cons_zero, List.set_cons_succ]
      refine h_take 32 (.bool true) rfl 76 rfl (by kernel_rfl) (by kernel_rfl) (by kernel_rfl) (by kernel_rfl) (fun _ _ _ h => h) (fun w' _ => by kernel_rfl) ⟨E_222, D_222, A_222, P_222, G_222, trivial⟩ ?_
      simp only [Act.put, List.setIfInBounds_toArray, List.set_cons_zero, List.set_cons_succ]
      refine h_take 33 (.bool true) rfl 77 rfl (by kernel_rfl) (by kernel_rfl) (by kernel_rfl) (by kernel_rfl) (fun _ _ _ h => h) (fun w' _ => by kernel_rfl) ⟨E_222, D_222, A_222, P_222, G_222, trivial⟩ ?_
      simp only [Act.put, List.setIfInBounds_toArray, List.set_cons_zero, List.set_cons_succ]
      refine h_take 34 (.bool true) rfl 78 rfl (by kernel_rfl) (by kernel_rfl) (by kernel_rfl) (by kernel_rfl) (fun _ _ _ h => h) (fun w' _ => by kernel_rfl) ⟨E_222, D_222, A_222, P_222, G_222, trivial⟩ ?_
      simp only [Act.put, List.setIfInBounds_toArray, List.set_cons_zero, List.set_cons_succ]
      refine h_take 35 (.pointer (some ⟨B, 0, none⟩)) rfl 79 rfl (by kernel_rfl) (by kernel_rfl) (by kernel_rfl) (by kernel_rfl) (fun _ _ _ h => h) (fun w' _ => by kernel_rfl) ⟨E_222, D_222, A_222, P_222, G_222, trivial⟩ ?_
      simp only [Act.put, List.setIfInBounds_toArray, List.set_cons_zero, List.set_cons_succ]
      refine h_take 37 (.agg (u8s (bareD 4)).toArray) rfl 81 rfl (by kernel_rfl) (by kernel_rfl) (by kernel_rfl) (by kernel_rfl) (fun _ _ _ h => h) (fun w' hw => run_op_load _ _ rfl E (0) rfl (u8s (bareD 4)) (((Has.refl _)).range hw.1) (szH KB.out)) ⟨E_222, D_222, A_222, P_222, G_222, trivial⟩ ?_
      simp only [Act.put, List.setIfInBounds_toArray, List.set_cons_zero, List.set_cons_succ]
      refine h_one (i := 36) (by kernel_rfl) (o_call rfl 80 rfl (by kernel_rfl) (run_op_call 19 _ _ rfl #[.pointer (some ⟨B, 0, none⟩)] (by simp only [List.map_toArray, List.map_cons, List.map_nil]; rfl) Tryd.func19 (by kernel_rfl) (by kernel_rfl) _) (CR1.out B mb _ T_222 (HKW.out _ bel_222)) ?_)
      rintro e y223 ⟨rfl, hB⟩
      have D_224 : Row y223 D 50 (u8s (bareD 4)) := D_222.old hB
      have T_224 : TrAt y223 B mb oneT := T_222.old hB
      have E_224 : Row y223 E 50 (u8s (bareD 4)) := E_222.old hB
      have A_224 : Row y223 A 36 (x) := A_222.old hB
      have P_224 : Row y223 P 52 (dgC pp) := P_222.old hB
      have G_224 : Row y223 G 50 (u8s da) := G_222.old hB
      have bel_224 : Below w.heap.size w y223 := below_step bel_222 bel_222.size hB
      clear D_222 T_222 E_222 A_222 P_222 G_222 bel_222 hB
      refine ⟨_, rfl, ⟨E_224, D_224, A_224, P_224, G_224, trivial⟩, ?_⟩
      simp only [Act.put, List.setIfInBounds_toArray, List.set_cons_zero, List.set_cons_succ]
      refine h_take 38 (.bool true) rfl 82 rfl (by kernel_rfl) (by kernel_rfl) (by kernel_rfl) (by kernel_rfl) (fun _ _ _ h => h) (fun w' _ => run_op_neqD KO.out KB.out _ _ _ rfl rfl rfl false ⟨fun h => (by cases h), fun h => absurd h NE.out⟩ w') ⟨E_224, D_224, A_224, P_224, G_224, trivial⟩ ?_
      simp only [Act.put, List.setIfInBounds_toArray, List.set_cons_zero, List.set_cons_succ]
      refine h_take 39 (.bool true) rfl 83 rfl (by kernel_rfl) (by kernel_rfl) (by kernel_rfl) (by kernel_rfl) (fun _ _ _ h => h) (fun w' _ => by kernel_rfl) ⟨E_224, D_224, A_224, P_224, G_224, trivial⟩ ?_
      simp only [Act.put, List.setIfInBounds_toArray, List.set_cons_zero, List.set_cons_succ]
      refine h_take 40 (.bool true) rfl 84 rfl (by kernel_rfl) (by kernel_rfl) (by kernel_rfl) (by kernel_rfl) (fun _ _ _ h => h) (fun w' _ => by kernel_rfl) ⟨E_224, D_224, A_224, P_224, G_224, trivial⟩ ?_
      simp only [Act.put, List.setIfInBounds_toArray, List.set_cons_zero, List.set_cons_succ]
      refine h_take 41 (.pointer (some ⟨B, 0, none⟩)) rfl 85 rfl (by kernel_rfl) (by kernel_rfl) (by kernel_rfl) (by kernel_rfl) (fun _ _ _ h => h) (fun w' _ => by kernel_rfl) ⟨E_224, D_224, A_224, P_224, G_224, trivial⟩ ?_
      simp only [Act.put, List.setIfInBounds_toArray, List.set_cons_zero, List.set_cons_succ]
      refine h_one (i := 42) (by kernel_rfl) (o_call rfl 86 rfl (by kernel_rfl) (run_op_call 25 _ _ rfl #[.pointer (some ⟨B, 0, none⟩), .int .i64 5] (by simp only [List.map_toArray, List.map_cons, List.map_nil]; rfl) Tryd.func25 (by kernel_rfl) (by kernel_rfl) _) (CD1.out B mb _ T_224) ?_)
      rintro e y225 ⟨rfl, hT, hO⟩
      have D_226 : Row y225 D 50 (u8s (bareD 4)) := D_224.only hO (Ne.symm (T_224.map.row D_224))
      have T_226 : TrAt y225 B mb bare := hT
      have E_226 : Row y225 E 50 (u8s (bareD 4)) := E_224.only hO (Ne.symm (T_224.map.row E_224))
      have A_226 : Row y225 A 36 (x) := A_224.only hO (Ne.symm (T_224.map.row A_224))
      have P_226 : Row y225 P 52 (dgC pp) := P_224.only hO (Ne.symm (T_224.map.row P_224))
      have G_226 : Row y225 G 50 (u8s da) := G_224.only hO (Ne.symm (T_224.map.row G_224))
      have bel_226 : Below w.heap.size w y225 := below_only bel_224 hO gemb bel_224.size
      clear D_224 T_224 E_224 A_224 P_224 G_224 bel_224 hO
      refine ⟨_, rfl, ⟨E_226, D_226, A_226, P_226, G_226, trivial⟩, ?_⟩
      simp only [Act.put, List.setIfInBounds_toArray, List.set_cons_zero, List.set_cons_succ]
      refine h_take 43 (.bool true) rfl 87 rfl (by kernel_rfl) (by kernel_rfl) (by kernel_rfl) (by kernel_rfl) (fun _ _ _ h => h) (fun w' _ => by kernel_rfl) ⟨E_226, D_226, A_226, P_226, G_226, trivial⟩ ?_
      simp only [Act.put, List.setIfInBounds_toArray, List.set_cons_zero, List.set_cons_succ]
      refine h_take 44 (.bool true) rfl 88 rfl (by kernel_rfl) (by kernel_rfl) (by kernel_rfl) (by kernel_rfl) (fun _ _ _ h => h) (fun w' _ => by kernel_rfl) ⟨E_226, D_226, A_226, P_226, G_226, trivial⟩ ?_
      simp only [Act.put, List.setIfInBounds_toArray, List.set_cons_zero, List.set_cons_succ]
      refine h_take 45 (.pointer (some ⟨B, 0, none⟩)) rfl 89 rfl (by kernel_rfl) (by kernel_rfl) (by kernel_rfl) (by kernel_rfl) (fun _ _ _ h => h) (fun w' _ => by kernel_rfl) ⟨E_226, D_226, A_226, P_226, G_226, trivial⟩ ?_
      simp only [Act.put, List.setIfInBounds_toArray, List.set_cons_zero, List.set_cons_succ]
      refine h_one (i := 46) (by kernel_rfl) (o_call rfl 90 rfl (by kernel_rfl) (run_op_call 25 _ _ rfl #[.pointer (some ⟨B, 0, none⟩), .int .i64 5] (by simp only [List.map_toArray, List.map_cons, List.map_nil]; rfl) Tryd.func25 (by kernel_rfl) (by kernel_rfl) _) (CD2.out B mb _ T_226) ?_)
      rintro e y227 ⟨rfl, hT, hO⟩
      have D_228 : Row y227 D 50 (u8s (bareD 4)) := D_226.only hO (Ne.symm (T_226.map.row D_226))
      have T_228 : TrAt y227 B mb bare := hT
      have E_228 : Row y227 E 50 (u8s (bareD 4)) := E_226.only hO (Ne.symm (T_226.map.row E_226))
      have A_228 : Row y227 A 36 (x) := A_226.only hO (Ne.symm (T_226.map.row A_226))
      have P_228 : Row y227 P 52 (dgC pp) := P_226.only hO (Ne.symm (T_226.map.row P_226))
      have G_228 : Row y227 G 50 (u8s da) := G_226.only hO (Ne.symm (T_226.map.row G_226))
      have bel_228 : Below w.heap.size w y227 := below_only bel_226 hO gemb bel_226.size
      clear D_226 T_226 E_226 A_226 P_226 G_226 bel_226 hO
      refine ⟨_, rfl, ⟨E_228, D_228, A_228, P_228, G_228, trivial⟩, ?_⟩
      simp only [Act.put, List.setIfInBounds_toArray, List.set_cons_zero, List.set_cons_succ]
      refine h_take 47 (.bool true) rfl 91 rfl (by kernel_rfl) (by kernel_rfl) (by kernel_rfl) (by kernel_rfl) (fun _ _ _ h => h) (fun w' _ => by kernel_rfl) ⟨E_228, D_228, A_228, P_228, G_228, trivial⟩ ?_
      simp only [Act.put, List.setIfInBounds_toArray, List.set_cons_zero, List.set_cons_succ]
      refine h_take 48 (.bool true) rfl 92 rfl (by kernel_rfl) (by kernel_rfl) (by kernel_rfl) (by kernel_rfl) (fun _ _ _ h => h) (fun w' _ => by kernel_rfl) ⟨E_228, D_228, A_228, P_228, G_228, trivial⟩ ?_
      simp only [Act.put, List.setIfInBounds_toArray, List.set_cons_zero, List.set_cons_succ]
      refine h_take 49 (.bool true) rfl 93 rfl (by kernel_rfl) (by kernel_rfl) (by kernel_rfl) (by kernel_rfl) (fun _ _ _ h => h) (fun w' _ => by kernel_rfl) ⟨E_228, D_228, A_228, P_228, G_228, trivial⟩ ?_
      simp only [Act.put, List.setIfInBounds_toArray, List.set_cons_zero, List.set_cons_succ]
      refine h_take 50 (.pointer (some ⟨B, 0, none⟩)) rfl 94 rfl (by kernel_rfl) (by kernel_rfl) (by kernel_rfl) (by kernel_rfl) (fun _ _ _ h => h) (fun w' _ => by kernel_rfl) ⟨E_228, D_228, A_228, P_228, G_228, trivial⟩ ?_
      simp only [Act.put, List.setIfInBounds_toArray, List.set_cons_zero, List.set_cons_succ]
      refine h_take 52 (.agg (u8s (bareD 4)).toArray) rfl 96 rfl (by kernel_rfl) (by kernel_rfl) (by kernel_rfl) (by kernel_rfl) (fun _ _ _ h => h) (fun w' hw => run_op_load _ _ rfl E (0) rfl (u8s (bareD 4)) (((Has.refl _)).range hw.1) (szH KB.out)) ⟨E_228, D_228, A_228, P_228, G_228, trivial⟩ ?_
      simp only [Act.put, List.setIfInBounds_toArray, List.set_cons_zero, List.set_cons_succ]
      refine h_one (i := 51) (by kernel_rfl) (o_call rfl 95 rfl (by kernel_rfl) (run_op_call 19 _ _ rfl #[.pointer (some ⟨B, 0, none⟩)] (by simp only [List.map_toArray, List.map_cons, List.map_nil]; rfl) Tryd.func19 (by kernel_rfl) (by kernel_rfl) _) (CR.out B mb _ T_228 (HKW.out _ bel_228)) ?_)
      rintro e y229 ⟨rfl, hB⟩
      have D_230 : Row y229 D 50 (u8s (bareD 4)) := D_228.old hB
      have T_230 : TrAt y229 B mb bare := T_228.old hB
      have E_230 : Row y229 E 50 (u8s (bareD 4)) := E_228.old hB
      have A_230 : Row y229 A 36 (x) := A_228.old hB
      have P_230 : Row y229 P 52 (dgC pp) := P_228.old hB
      have G_230 : Row y229 G 50 (u8s da) := G_228.old hB
      have bel_230 : Below w.heap.size w y229 := below_step bel_228 bel_228.size hB
      clear D_228 T_228 E_228 A_228 P_228 G_228 bel_228 hB
      refine ⟨_, rfl, ⟨E_230, D_230, A_230, P_230, G_230, trivial⟩, ?_⟩
      simp only [Act.put, List.setIfInBounds_toArray, List.set_cons_zero, List.set_cons_succ]
      refine h_take 53 (.bool true) rfl 97 rfl (by kernel_rfl) (by kernel_rfl) (by kernel_rfl) (by kernel_rfl) (fun _ _ _ h => h) (fun w' _ => run_op_eqlD KB.out KB.out _ _ _ rfl rfl rfl true ⟨fun _ => rfl, fun _ => rfl⟩ w') ⟨E_230, D_230, A_230, P_230, G_230, trivial⟩ ?_
      simp only [Act.put, List.setIfInBounds_toArray, List.set_cons_zero, List.set_cons_succ]
      refine h_take 54 (.bool true) rfl 98 rfl (by kernel_rfl) (by kernel_rfl) (by kernel_rfl) (by kernel_rfl) (fun _ _ _ h => h) (fun w' _ => by kernel_rfl) ⟨E_230, D_230, A_230, P_230, G_230, trivial⟩ ?_
      simp only [Act.put, List.setIfInBounds_toArray, List.set_cons_zero, List.set_cons_succ]
      refine h_take 55 (.bool true) rfl 99 rfl (by kernel_rfl) (by kernel_rfl) (by kernel_rfl) (by kernel_rfl) (fun _ _ _ h => h) (fun w' _ => by kernel_rfl) ⟨E_230, D_230, A_230, P_230, G_230, trivial⟩ ?_
      simp only [Act.put, List.setIfInBounds_toArray, List.set_cons_zero, List.set_cons_succ]
      refine h_take 56 (.pointer (some ⟨B, 0, none⟩)) rfl 100 rfl (by kernel_rfl) (by kernel_rfl) (by kernel_rfl) (by kernel_rfl) (fun _ _ _ h => h) (fun w' _ => by kernel_rfl) ⟨E_230, D_230, A_230, P_230, G_230, trivial⟩ ?_
      simp only [Act.put, List.setIfInBounds_toArray, List.set_cons_zero, List.set_cons_succ]
      refine h_take 57 (.agg (x).toArray) rfl 101 rfl (by kernel_rfl) (by kernel_rfl) (by kernel_rfl) (by kernel_rfl) (fun _ _ _ h => h) (fun w' hw => run_op_load _ _ rfl A (0) rfl (x) (((Has.refl _)).range hw.2.2.1) (AX.out)) ⟨E_230, D_230, A_230, P_230, G_230, trivial⟩ ?_
      simp only [Act.put, List.setIfInBounds_toArray, List.set_cons_zero, List.set_cons_succ]
      refine h_one (i := 58) (by kernel_rfl) (o_call rfl 102 rfl (by kernel_rfl) (run_op_call 24 _ _ rfl #[.pointer (some ⟨B, 0, none⟩), .int .i64 16, .agg x.toArray] (by simp only [List.map_toArray, List.map_cons, List.map_nil]; rfl) Tryd.func24 (by kernel_rfl) (by kernel_rfl) _) (CS16.out B mb _ T_230) ?_)
      rintro e y231 ⟨rfl, hT, hO⟩
      have D_232 : Row y231 D 50 (u8s (bareD 4)) := D_230.only hO (Ne.symm (T_230.map.row D_230))
      have T_232 : TrAt y231 B mb bare := hT
      have E_232 : Row y231 E 50 (u8s (bareD 4)) := E_230.only hO (Ne.symm (T_230.map.row E_230))
      have A_232 : Row y231 A 36 (x) := A_230.only hO (Ne.symm (T_230.map.row A_230))
      have P_232 : Row y231 P 52 (dgC pp) := P_230.only hO (Ne.symm (T_230.map.row P_230))
      have G_232 : Row y231 G 50 (u8s da) := G_230.only hO (Ne.symm (T_230.map.row G_230))
      have bel_232 : Below w.heap.size w y231 := below_only bel_230 hO gemb bel_230.size
      clear D_230 T_230 E_230 A_230 P_230 G_230 bel_230 hO
      refine ⟨_, rfl, ⟨E_232, D_232, A_232, P_232, G_232, trivial⟩, ?_⟩
      simp only [Act.put, List.setIfInBounds_toArray, List.set_cons_zero, List.set_cons_succ]
      refine h_take 59 (.bool true) rfl 103 rfl (by kernel_rfl) (by kernel_rfl) (by kernel_rfl) (by kernel_rfl) (fun _ _ _ h => h) (fun w' _ => by kernel_rfl) ⟨E_232, D_232, A_232, P_232, G_232, trivial⟩ ?_
      simp only [Act.put, List.setIfInBounds_toArray, List.set_cons_zero, List.set_cons_succ]
      refine h_take 60 (.bool true) rfl 104 rfl (by kernel_rfl) (by kernel_rfl) (by kernel_rfl) (by kernel_rfl) (fun _ _ _ h => h) (fun w' _ => by kernel_rfl) ⟨E_232, D_232, A_232, P_232, G_232, trivial⟩ ?_
      simp only [Act.put, List.setIfInBounds_toArray, List.set_cons_zero, List.set_cons_succ]
      refine h_take 61 (.bool true) rfl 0 rfl (by kernel_rfl) (by kernel_rfl) (by kernel_rfl) (by kernel_rfl) (fun _ _ _ h => h) (fun w' _ => by kernel_rfl) ⟨E_232, D_232, A_232, P_232, G_232, trivial⟩ ?_
      simp only [Act.put, List.setIfInBounds_toArray, List.set_cons_zero, List.set_cons_succ]
      refine wpAnyH_done (by kernel_rfl) ?_ _
      go_wp2_with fail
      go_ret
      exact ⟨rfl, bel_232⟩
end Go.Proofs.YtpebadhknpohkaaDoor.Tr
