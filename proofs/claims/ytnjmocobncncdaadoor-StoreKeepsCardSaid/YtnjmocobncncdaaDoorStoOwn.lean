/-
  The contracts of the store's Keys, Put and Keep. Over this seat's translation.
-/
import Derived.Test.YtnjmocobncncdaaDoorStoPut
namespace Go.Proofs.YtnjmocobncncdaaDoor.So
open Go.ChangeShapes Go.WideShapes Go.ChangeAt Go.RowKit Go.Proofs.YtnjmocobncncdaaDoor.Mem Go.Proofs.YtnjmocobncncdaaDoor.Bt Go.Proofs.YtnjmocobncncdaaDoor.Km
open Go.Proofs.YtnjmocobncncdaaDoor.Ep (H32 zh zh_ok Has h_len szH zH fitH allH one_app num32)
open Go.Proofs.YtnjmocobncncdaaDoor.Sl (Kind At bk)
open Go.Proofs.YtnjmocobncncdaaDoor.Sha (ks)
open Go.Proofs.YtnjmocobncncdaaDoor.Sa (Sta scs digS digS_ok sz_sta h_drw h_lngth)
open Go.Proofs.YtnjmocobncncdaaDoor.Od (Ky kcs keyN keyN_ok kcs_len kcs_one kcmp kval zk z_key sz_key fitK allK built_key compare_anyD)
set_option linter.unusedVariables false
set_option linter.unusedSimpArgs false

structure KyRel (w : World) (L : List Sta) (s i : Value) (wr : World) : Prop where
  ex : ∃ (k : Nat) (p : Option Addr) (c : Nat), k ≤ L.length ∧ i = .int .i64 (k : Int) ∧ s = .slice p k c ∧ Sl.Own Od.kK wr w.heap.size p c ((L.take k).map keyN)
  bel : Below w.heap.size w wr
structure KeysPost (w : World) (L : List Sta) (e : Ending) (w' : World) : Prop where
  ret : ∃ p c, e = .returned (.slice p L.length c) ∧ Sl.Own Od.kK w' w.heap.size p c (L.map keyN)
  bel : Below w.heap.size w w'
set_option maxHeartbeats 4000000 in
set_option maxRecDepth 100000 in
theorem keysE_any (F : Nat → Prop) (S r mb : Nat) (pin : Option (List Nat)) (E : Ents) (L : List Sta) (w : World) (hS : SAt w F S r mb pin E) (hL : Rise vK L) (hE : (E.map Prod.fst).Perm L) (hl : L.length ≤ 1000) :
    Calls Tryd.prog 13 #[.pointer (some ⟨S, 0, none⟩)] w (KeysPost w L) := by
  have CR := Lib.hid (fun w0 a => rising_any F S r mb pin E L w0 a hL hE hl)
  have HLL := Lib.hid hl
  have HB : Hid (∀ x ∈ L, ∃ b, (x, b) ∈ E) := Lib.hid fun x hx => by
    obtain ⟨p, hp, rfl⟩ := List.mem_map.1 (hE.mem_iff.2 hx)
    exact ⟨p.2, hp⟩
  have OK : Hid (∀ x ∈ L, x.Ok) := Lib.hid fun x hx => by
    obtain ⟨p, hp, rfl⟩ := List.mem_map.1 (hE.mem_iff.2 hx)
    exact hS.ok p hp
  have HS := Lib.hid hS
  clear hL hE hl hS
  go_enter Tryd.func13, Tryd.ntmps13
  go_wp2_with fail
  refine (CR.out _ HS.out).mono ?_
  rintro e y ⟨⟨p0, c0, rfl, hO⟩, hB0⟩
  have HO := Lib.hid hO
  have FA : Hid (∀ w', Below y.heap.size y w' → SAt w' F S r mb pin E) := Lib.hid fun w' hb => (HS.out.old hB0).old hb
  have FO : Hid (∀ w', Below y.heap.size y w' → Sl.Own kD w' w.heap.size p0 c0 (L.map digS)) := Lib.hid fun w' hb => hO.below hb
  have HB0 := Lib.hid hB0
  clear hO hB0 HS CR
  go_wp2_with fail
  try simp only [Act.put]
  have h0 : KyRel y L (.slice none 0 0) (.int .i64 0) y := ⟨⟨0, none, 0, Nat.zero_le _, rfl, rfl, Sl.Own.nil _ _⟩, Below.refl _ _⟩
  go_loopw [3, 9] (fun s i wr => KyRel y L s i wr) (fun _ i _ => L.length - (intOf i).toNat)
  case atStart => exact h0
  case round =>
    clear h0
    obtain ⟨⟨k, mp, mc, hk, rfl, rfl, hW⟩, bel⟩ := hrel
    have hL := HLL.out
    by_cases hlt : k < L.length
    · obtain ⟨x, hx⟩ : ∃ x, L[k]? = some x := ⟨_, List.getElem?_eq_getElem hlt⟩
      obtain ⟨b, hxb⟩ := HB.out x (List.mem_of_getElem? hx)
      have hA := FA.out wr bel
      have hOw := FO.out wr bel
      have hne : L.map digS ≠ [] := by intro e; have := congrArg List.length e; rw [List.length_map, List.length_nil] at this; omega
      obtain ⟨g, cur, rfl, _⟩ := own_row hOw hne
      have hAt := hOw.at fD
      have hxd : (L.map digS)[k]? = some (digS x) := by rw [List.getElem?_map, hx]; rfl
      have HXD := Lib.hid hxd; have HX := Lib.hid hx; have KH := Lib.hid (digS_ok x)
      have KK := Lib.hid (keyN_ok (OK.out x (List.mem_of_getElem? hx)))
      have CK := Lib.hid (fun w0 a => key_any F S r mb pin E x b w0 a hxb)
      have ik : (k : Int) < (L.length : Int) := by omega
      have k1000 : k < 1000 := by omega
      clear hOw hne hxd hx hxb hL
      have bel0 : Chg (fun _ => False) y wr := Chg.of_below _ bel
      clear bel
      go_wp2_with (first
        | ((with_reducible refine at_slot 11 ?_); (refine arm_want (.pointer (some ⟨g, 0 + k * 32, none⟩)) 11 rfl (by kernel_rfl) (Sl.run_op_index fD _ _ rfl g 0 _ _ rfl .i64 _ rfl k rfl hlt _) ?_); try simp only [Act.put, List.setIfInBounds_toArray, List.set_cons_zero, List.set_cons_succ])
        | ((with_reducible refine at_slot 12 ?_); (refine arm_load (o := ⟨some 12, _, _, _, _, _⟩) rfl _ _ rfl g (0 + k * 32) rfl (u8s (digS x)) (at_range hAt HXD.out) (szH KH.out) ?_); try simp only [Act.put, List.setIfInBounds_toArray, List.set_cons_zero, List.set_cons_succ])
        | ((with_reducible refine at_slot 5 ?_); (refine arm_alloc (o := ⟨some 5, _, _, _, _, _⟩) rfl _ rfl (u8s zh) zH ?_); intro X v1a Xe hXa nX; try simp only [Act.put, List.setIfInBounds_toArray, List.set_cons_zero, List.set_cons_succ])
        | ((with_reducible refine arm_store (o := ⟨none, _, _, _, _, _⟩) rfl _ _ _ rfl X 0 rfl (u8s (digS x)) rfl _ _ hXa (fitH KH.out) (u8s_one _) (szH KH.out) ?_); intro v1 hXb oX sX; try simp only [Act.put, List.setIfInBounds_toArray, List.set_cons_zero, List.set_cons_succ])
        | ((with_reducible refine at_slot 15 ?_); (refine arm_load (o := ⟨some 15, _, _, _, _, _⟩) rfl _ _ rfl X 0 rfl (u8s (digS x)) ((Has.refl _).range (hXb.congr (allH KH.out))) (szH KH.out) ?_); try simp only [Act.put, List.setIfInBounds_toArray, List.set_cons_zero, List.set_cons_succ]))
      have lX : wr.heap.size ≤ X := by have := Xe.out; omega
      have bX : Below wr.heap.size wr v1 := below_only nX.below oX lX nX.below.size
      have rrX : Row v1 X 29 (u8s (digS x)) := hXb.congr (allH KH.out)
      have geX : y.heap.size ≤ X := Nat.le_trans bel0.size lX
      have lXx := lX
      clear hXa hXb nX oX sX Xe lX
      have A_2 : SAt v1 F S r mb pin E := hA.old bX
      have O_2 : Sl.At kD v1 (some ⟨g, 0, none⟩) (L.map digS) := hAt.below bX
      have W_2 : Sl.Own Od.kK v1 y.heap.size mp mc ((L.take k).map keyN) := hW.below bX
      have bel_2 : Chg (fun _ => False) y v1 := bel0.old bX
      clear hA hAt hW bel0 bX
      refine (CK.out _ A_2).mono ?_
      rintro e y3 ⟨rfl, hBD⟩
      have hB := hBD.below
      clear hBD
      have A_4 : SAt y3 F S r mb pin E := A_2.old hB
      have O_4 : Sl.At kD y3 (some ⟨g, 0, none⟩) (L.map digS) := O_2.below hB
      have W_4 : Sl.Own Od.kK y3 y.heap.size mp mc ((L.take k).map keyN) := W_2.below hB
      have X_4 : Row y3 X 29 (u8s (digS x)) := rrX.old hB
      have bel_4 : Chg (fun _ => False) y y3 := bel_2.old hB
      clear A_2 O_2 W_2 rrX bel_2 hB
      go_wp2_with (first
        | ((with_reducible refine at_slot 17 ?_); (refine Sl.arm_lit (K := Od.kK) (o := ⟨some 17, _, _, _, _, _⟩) rfl Od.fK [keyN x] (Sl.allOk_cons KK.out Sl.allOk_nil) (by simp) _ _ rfl rfl (by simp only [List.map_toArray, List.map_cons, List.map_nil]; rfl) ?_); intro Y vY Ye hY nY; try simp only [Act.put, List.setIfInBounds_toArray, List.set_cons_zero, List.set_cons_succ])
        | ((with_reducible refine at_slot 18 ?_); (refine Sl.arm_append (K := Od.kK) (o := ⟨some 18, _, _, _, _, _⟩) rfl Od.fK _ _ rfl (y.heap.size) (mp) _ mc ((L.take k).map keyN) (by rw [List.length_map, List.length_take]; omega) rfl (W_4.below nY.below) (some ⟨Y, 0, none⟩) 1 1 ([keyN x]) rfl rfl (Sl.At.row Od.fK (Sl.allOk_cons KK.out Sl.allOk_nil) hY (List.append_nil _).symm) (by simp) (by simp only [List.length_map, List.length_take, List.length_cons, List.length_nil]; omega) (by have := bel_4.size; have := nY.size; omega) ?_); intro mp2 mc2 vZ hO2 hBZ hkp hat; rw [show ((L.take k).map keyN ++ [keyN x]).length = k + 1 by simp only [List.length_append, List.length_map, List.length_take, List.length_cons, List.length_nil]; omega]; try simp only [Act.put, List.setIfInBounds_toArray, List.set_cons_zero, List.set_cons_succ]))
      have belZ : Below y.heap.size y vZ := ((bel_4.below (fun k hk => hk.elim) (Nat.le_refl _)).trans (nY.below.mono bel_4.size)).trans hBZ
      have hO3 : Sl.Own Od.kK vZ y.heap.size mp2 mc2 ((L.take (k + 1)).map keyN) := by
        rw [List.take_add_one, HX.out, List.map_append]
        exact hO2
      clear hO2 hBZ hkp hat Ye hY nY bel_4 A_4 O_4 W_4 X_4
      go_roundw
      case rel => exact ⟨⟨k + 1, mp2, mc2, by omega, by go_num, rfl, hO3⟩, belZ⟩
      case measure => simp [intOf]; omega
    · obtain rfl : k = L.length := by omega
      rw [List.take_length] at hW
      have HW := Lib.hid hW; have HBL := Lib.hid bel
      clear hW bel hL
      go_wp2_with fail
      go_ret
      exact ⟨⟨mp, mc, rfl, Sl.Own.low HW.out HB0.out.size⟩, HB0.out.trans (HBL.out.mono HB0.out.size)⟩
set_option maxHeartbeats 4000000 in
set_option maxRecDepth 100000 in
theorem sputE_any (F : Nat → Prop) (S r mb : Nat) (pin : Option (List Nat)) (E : Ents) (L : List Sta) (x : Sta) (w : World) (hS : SAt w F S r mb pin E) (kx : x.Ok) (hL : Rise vK L) (hE : (E.map Prod.fst).Perm L) (kL : ∀ y ∈ L, y.Ok) (hl : L.length ≤ r) (hr : 2 ≤ r ∧ r ≤ 100) (hk : w.rangeAt 0 0 (u32s ks)) :
    Calls Tryd.prog 12 #[.pointer (some ⟨S, 0, none⟩), .agg (scs x).toArray] w (SPutPost w F S r mb pin (putL r pin x L)) := by
  have hk1 : 0 < w.heap.size := range_lt hk (by simp [u32s, ks])
  have HKW : Hid (∀ w', Below w.heap.size w w' → w'.rangeAt 0 0 (u32s ks)) := Lib.hid fun w' hb => range_block hk (hb.block _ hk1)
  have KX := Lib.hid kx
  have LI := Lib.hid hS.lies
  have CH := Lib.hid (fun w0 h => Sa.shash_any x w0 kx h)
  have CP := Lib.hid (fun w0 a => sput_any F S r mb pin E L x w0 a kx hL hE kL hl hr)
  obtain ⟨q, hq⟩ : ∃ q, q = putL r pin x L := ⟨_, rfl⟩
  rw [← hq] at CP ⊢
  have KG : Hid (H32 ((q.2.map digS).getD zh)) := Lib.hid (by cases q.2 with | none => exact zh_ok | some g => exact digS_ok g)
  obtain ⟨d, hd⟩ : ∃ d, d = (q.2.map digS).getD zh := ⟨_, rfl⟩
  obtain ⟨v, hv⟩ : ∃ v, v = q.2.isSome := ⟨_, rfl⟩
  rw [← hd] at KG
  have HQ : Hid (∀ w1 F' e w', SPutPost w1 F' S r mb pin q e w' → e = .returned (.tuple #[.agg (u8s d).toArray, .bool v]) ∧ (∃ F2 E', SAt w' F2 S r mb pin E' ∧ (E'.map Prod.fst).Perm q.1 ∧ Grew F' F2 w1.heap.size) ∧ Chg F' w1 w') := Lib.hid fun w1 F' e w' h => ⟨by rw [hd, hv]; exact h.ret, h.at_, h.chg⟩
  have HR : Hid (∀ w', (∃ F2 E', SAt w' F2 S r mb pin E' ∧ (E'.map Prod.fst).Perm q.1 ∧ Grew F F2 w.heap.size) → Chg F w w' → SPutPost w F S r mb pin q (.returned (.tuple #[.agg (u8s d).toArray, .bool v])) w') := Lib.hid fun w' h c => ⟨by rw [hd, hv], h, c⟩
  clear hk hk1 kx hL hE kL hl hr hq hd hv
  go_enter Tryd.func12, Tryd.ntmps12
  have bel0 : Chg F w w := Chg.refl _ _
  go_wp2_with (first
    | ((with_reducible refine at_slot 3 ?_); (refine arm_box (o := ⟨some 3, _, _, _, _, _⟩) rfl _ _ rfl (scs x) rfl ?_); intro X v1 Xe hv1 nv1; try simp only [Act.put, List.setIfInBounds_toArray, List.set_cons_zero, List.set_cons_succ])
    | ((with_reducible refine at_slot 4 ?_); (refine arm_alloc (o := ⟨some 4, _, _, _, _, _⟩) rfl _ rfl (u8s zh) zH ?_); intro R v2 Re hv2 nv2; try simp only [Act.put, List.setIfInBounds_toArray, List.set_cons_zero, List.set_cons_succ]))
  have hbv1 := nv1.below
  have rrv1 : Row v1 X 41 (scs x) := hv1
  have hbv2 := nv2.below
  have rrv2 : Row v2 R 29 (u8s zh) := hv2
  have geX : w.heap.size ≤ X := by have := Xe.out; have := bel0.size; omega
  have lXx : w.heap.size ≤ X := by have := Xe.out; omega
  clear hv1 nv1 Xe
  have A_3 : SAt v1 F S r mb pin E := hS.old hbv1
  have Q_3 : v1.rangeAt 0 0 (u32s ks) := range_block (HKW.out _ (Below.refl _ _)) (hbv1.block _ (range_lt (HKW.out _ (Below.refl _ _)) (by simp [u32s, ks])))
  have bel_3 : Chg F w v1 := bel0.old hbv1
  clear hS bel0 hbv1
  have geR : w.heap.size ≤ R := by have := Re.out; have := bel_3.size; omega
  have ltXR : X < R := by have := Re.out; have := rrv1.lt; omega
  have lRx : v1.heap.size ≤ R := by have := Re.out; omega
  clear hv2 nv2 Re
  have A_4 : SAt v2 F S r mb pin E := A_3.old hbv2
  have Q_4 : v2.rangeAt 0 0 (u32s ks) := range_block Q_3 (hbv2.block _ (range_lt Q_3 (by simp [u32s, ks])))
  have X_4 : Row v2 X 41 (scs x) := rrv1.old hbv2
  have bel_4 : Chg F w v2 := bel_3.old hbv2
  clear A_3 Q_3 rrv1 bel_3 hbv2
  have nFX : Hid (¬ F X) := Lib.hid (fun q => Nat.lt_irrefl _ (Nat.lt_of_lt_of_le (LI.out _ q) geX))
  have nFR : Hid (¬ F R) := Lib.hid (fun q => Nat.lt_irrefl _ (Nat.lt_of_lt_of_le (LI.out _ q) geR))
  have nXR : X ≠ R := by omega
  refine wp_region_held (S := fun w' => Row w' X 41 (scs x) ∧ True) (by kernel_rfl) ?_
  change wpAnyH _ _ _ _ _ _ _ _ v2.drew
  have hd5 : Below v2.heap.size v2 v2.drew := (Below.refl _ _).drew
  have A_6 : SAt v2.drew F S r mb pin E := A_4.old hd5
  have Q_6 : v2.drew.rangeAt 0 0 (u32s ks) := range_block Q_4 (hd5.block _ (range_lt Q_4 (by simp [u32s, ks])))
  have X_6 : Row v2.drew X 41 (scs x) := X_4.old hd5
  have R_6 : Row v2.drew R 29 (u8s zh) := rrv2.old hd5
  have bel_6 : Chg F w v2.drew := bel_4.old hd5
  clear A_4 Q_4 X_4 rrv2 bel_4 hd5
  generalize v2.drew = yz5 at A_6 Q_6 X_6 R_6 bel_6 ⊢
  refine h_take 0 (.pointer (some ⟨S, 0, none⟩)) rfl 6 rfl (by kernel_rfl) (by kernel_rfl) (by kernel_rfl) (by kernel_rfl) (fun _ _ _ h => h) (fun w' _ => by kernel_rfl) ⟨X_6, trivial⟩ ?_
  simp only [Act.put, List.setIfInBounds_toArray, List.set_cons_zero, List.set_cons_succ]
  refine h_take 1 (.agg (scs x).toArray) rfl 7 rfl (by kernel_rfl) (by kernel_rfl) (by kernel_rfl) (by kernel_rfl) (fun _ _ _ h => h) (fun w' hw => run_op_load _ _ rfl X (0) rfl (scs x) (((Has.refl _)).range hw.1) ((sz_sta KX.out))) ⟨X_6, trivial⟩ ?_
  simp only [Act.put, List.setIfInBounds_toArray, List.set_cons_zero, List.set_cons_succ]
  refine h_take 3 (.agg (scs x).toArray) rfl 9 rfl (by kernel_rfl) (by kernel_rfl) (by kernel_rfl) (by kernel_rfl) (fun _ _ _ h => h) (fun w' hw => run_op_load _ _ rfl X (0) rfl (scs x) (((Has.refl _)).range hw.1) ((sz_sta KX.out))) ⟨X_6, trivial⟩ ?_
  simp only [Act.put, List.setIfInBounds_toArray, List.set_cons_zero, List.set_cons_succ]
  refine h_one (i := 2) (by kernel_rfl) (o_call rfl 8 rfl (by kernel_rfl) (run_op_call 7 _ _ rfl #[.agg (scs x).toArray] (by simp only [List.map_toArray, List.map_cons, List.map_nil]; rfl) Tryd.func7 (by kernel_rfl) (by kernel_rfl) _) (CH.out _ Q_6) ?_)
  rintro e y7 ⟨rfl, hB⟩
  have A_8 : SAt y7 F S r mb pin E := A_6.old hB
  have Q_8 : y7.rangeAt 0 0 (u32s ks) := range_block Q_6 (hB.block _ (range_lt Q_6 (by simp [u32s, ks])))
  have X_8 : Row y7 X 41 (scs x) := X_6.old hB
  have R_8 : Row y7 R 29 (u8s zh) := R_6.old hB
  have bel_8 : Chg F w y7 := bel_6.old hB
  clear A_6 Q_6 X_6 R_6 bel_6 hB
  refine ⟨_, rfl, ⟨X_8, trivial⟩, ?_⟩
  simp only [Act.put, List.setIfInBounds_toArray, List.set_cons_zero, List.set_cons_succ]
  clear Q_8
  have RLT := Lib.hid R_8.lt
  have GE := Lib.hid bel_8.size
  refine h_one (i := 4) (by kernel_rfl) (o_call rfl 10 rfl (by kernel_rfl) (run_op_call 23 _ _ rfl #[.pointer (some ⟨S, 0, none⟩), .agg (u8s (digS x)).toArray, .agg (scs x).toArray] (by simp only [List.map_toArray, List.map_cons, List.map_nil]; rfl) Tryd.func23 (by kernel_rfl) (by kernel_rfl) _) (CP.out _ A_8) ?_)
  rintro e y9 hpost
  obtain ⟨rfl, ⟨F2, E2, hA2, hE2, hG2⟩, hc⟩ := HQ.out _ _ _ _ hpost
  clear hpost
  have X_10 : Row y9 X 41 (scs x) := X_8.chg hc nFX.out
  have R_10 : Row y9 R 29 (u8s zh) := R_8.chg hc nFR.out
  have bel_10 : Chg F w y9 := bel_8.step hc
  clear X_8 R_8 bel_8 hc
  refine ⟨_, rfl, ⟨X_10, trivial⟩, ?_⟩
  simp only [Act.put, List.setIfInBounds_toArray, List.set_cons_zero, List.set_cons_succ]
  have nRF : Hid (¬ F2 R) := Lib.hid (fun q => (hG2 R q).elim nFR.out (fun z => Nat.lt_irrefl _ (Nat.lt_of_lt_of_le RLT.out z)))
  refine h_take 5 (.agg (u8s d).toArray) rfl 11 rfl (by kernel_rfl) (by kernel_rfl) (by kernel_rfl) (by kernel_rfl) (fun _ _ _ h => h) (fun w' _ => by kernel_rfl) ⟨X_10, trivial⟩ ?_
  simp only [Act.put, List.setIfInBounds_toArray, List.set_cons_zero, List.set_cons_succ]
  refine h_take 6 (.bool v) rfl 12 rfl (by kernel_rfl) (by kernel_rfl) (by kernel_rfl) (by kernel_rfl) (fun _ _ _ h => h) (fun w' _ => by kernel_rfl) ⟨X_10, trivial⟩ ?_
  simp only [Act.put, List.setIfInBounds_toArray, List.set_cons_zero, List.set_cons_succ]
  refine h_one (i := 7) (by kernel_rfl) (o_skip rfl rfl (by kernel_rfl) (run_op_store _ _ _ rfl R (0) rfl (u8s d) rfl _ _ R_10 (fitH KG.out) (u8s_one _) (szH KG.out)) ?_)
  have rq := row_setRow R_10 (lay (u8s zh) (0) (u8s d))
  have oq := Only.setRow R y9 (lay (u8s zh) (0) (u8s d)).toArray
  generalize y9.setRow R (lay (u8s zh) (0) (u8s d)).toArray = y11 at rq oq ⊢
  have X_12 : Row y11 X 41 (scs x) := X_10.only oq nXR
  have R_12 : Row y11 R 29 (u8s d) := rq.congr (allH KG.out)
  have A_12 : SAt y11 F2 S r mb pin E2 := hA2.only oq nRF.out
  have bel_12 : Chg F w y11 := bel_10.new oq (geR)
  clear X_10 R_10 hA2 bel_10 oq
  clear rq
  refine ⟨⟨X_12, trivial⟩, ?_⟩
  refine h_take 8 (.bool v) rfl 5 rfl (by kernel_rfl) (by kernel_rfl) (by kernel_rfl) (by kernel_rfl) (fun _ _ _ h => h) (fun w' _ => by kernel_rfl) ⟨X_12, trivial⟩ ?_
  simp only [Act.put, List.setIfInBounds_toArray, List.set_cons_zero, List.set_cons_succ]
  refine wpAnyH_done (by kernel_rfl) ?_ _
  go_wp2_with fail
  exact bodyPost_ret (result_row2 (p := 4) (u := 5) (ty := 29) (t := 29) (by kernel_rfl) _ _ R (u8s d) (.bool v) rfl rfl R_12 (szH KG.out)) rfl (HR.out _ ⟨F2, E2, A_12, hE2, hG2.less GE.out⟩ bel_12)
set_option maxHeartbeats 4000000 in
set_option maxRecDepth 100000 in
theorem skeepE_any (F : Nat → Prop) (S r mb : Nat) (pin : Option (List Nat)) (E : Ents) (L : List Sta) (x : Sta) (w : World) (hS : SAt w F S r mb pin E) (kx : x.Ok) (hL : Rise vK L) (hE : (E.map Prod.fst).Perm L) (kL : ∀ y ∈ L, y.Ok) (hl : L.length ≤ r) (hr : 2 ≤ r ∧ r ≤ 100) (hk : w.rangeAt 0 0 (u32s ks)) :
    Calls Tryd.prog 9 #[.pointer (some ⟨S, 0, none⟩), .agg (scs x).toArray] w (SPutPost w F S r mb (some (digS x)) (putL r (some (digS x)) x L)) := by
  have hk1 : 0 < w.heap.size := range_lt hk (by simp [u32s, ks])
  have HKW : Hid (∀ w', Below w.heap.size w w' → w'.rangeAt 0 0 (u32s ks)) := Lib.hid fun w' hb => range_block hk (hb.block _ hk1)
  have KX := Lib.hid kx
  have KH := Lib.hid (digS_ok x)
  have LI := Lib.hid hS.lies
  have CH := Lib.hid (fun w0 h => Sa.shash_any x w0 kx h)
  have CI := Lib.hid (fun w0 a => spinIn_any F S r mb pin E (digS x) w0 a (digS_ok x))
  have CP := Lib.hid (fun w0 a => sput_any F S r mb (some (digS x)) E L x w0 a kx hL hE kL hl hr)
  obtain ⟨q, hq⟩ : ∃ q, q = putL r (some (digS x)) x L := ⟨_, rfl⟩
  rw [← hq] at CP ⊢
  have KG : Hid (H32 ((q.2.map digS).getD zh)) := Lib.hid (by cases q.2 with | none => exact zh_ok | some g => exact digS_ok g)
  obtain ⟨d, hd⟩ : ∃ d, d = (q.2.map digS).getD zh := ⟨_, rfl⟩
  obtain ⟨v, hv⟩ : ∃ v, v = q.2.isSome := ⟨_, rfl⟩
  rw [← hd] at KG
  have HQ : Hid (∀ w1 F' e w', SPutPost w1 F' S r mb (some (digS x)) q e w' → e = .returned (.tuple #[.agg (u8s d).toArray, .bool v]) ∧ (∃ F2 E', SAt w' F2 S r mb (some (digS x)) E' ∧ (E'.map Prod.fst).Perm q.1 ∧ Grew F' F2 w1.heap.size) ∧ Chg F' w1 w') := Lib.hid fun w1 F' e w' h => ⟨by rw [hd, hv]; exact h.ret, h.at_, h.chg⟩
  have HR : Hid (∀ w', (∃ F2 E', SAt w' F2 S r mb (some (digS x)) E' ∧ (E'.map Prod.fst).Perm q.1 ∧ Grew F F2 w.heap.size) → Chg F w w' → SPutPost w F S r mb (some (digS x)) q (.returned (.tuple #[.agg (u8s d).toArray, .bool v])) w') := Lib.hid fun w' h c => ⟨by rw [hd, hv], h, c⟩
  clear hk hk1 kx hL hE kL hl hr hq hd hv
  go_enter Tryd.func9, Tryd.ntmps9
  have bel0 : Chg F w w := Chg.refl _ _
  go_wp2_with (first
    | ((with_reducible refine at_slot 3 ?_); (refine arm_box (o := ⟨some 3, _, _, _, _, _⟩) rfl _ _ rfl (scs x) rfl ?_); intro X v1 Xe hv1 nv1; try simp only [Act.put, List.setIfInBounds_toArray, List.set_cons_zero, List.set_cons_succ])
    | ((with_reducible refine at_slot 4 ?_); (refine arm_alloc (o := ⟨some 4, _, _, _, _, _⟩) rfl _ rfl (u8s zh) zH ?_); intro R v2 Re hv2 nv2; try simp only [Act.put, List.setIfInBounds_toArray, List.set_cons_zero, List.set_cons_succ])
    | ((with_reducible refine at_slot 7 ?_); (refine arm_load (o := ⟨some 7, _, _, _, _, _⟩) rfl _ _ rfl X 0 rfl (scs x) ((Has.refl _).range (hv1.old nv2.below)) (sz_sta KX.out) ?_); try simp only [Act.put, List.setIfInBounds_toArray, List.set_cons_zero, List.set_cons_succ]))
  have hbv1 := nv1.below
  have rrv1 : Row v1 X 41 (scs x) := hv1
  have hbv2 := nv2.below
  have rrv2 : Row v2 R 29 (u8s zh) := hv2
  have geX : w.heap.size ≤ X := by have := Xe.out; have := bel0.size; omega
  have lXx : w.heap.size ≤ X := by have := Xe.out; omega
  clear hv1 nv1 Xe
  have A_3 : SAt v1 F S r mb pin E := hS.old hbv1
  have Q_3 : v1.rangeAt 0 0 (u32s ks) := range_block (HKW.out _ (Below.refl _ _)) (hbv1.block _ (range_lt (HKW.out _ (Below.refl _ _)) (by simp [u32s, ks])))
  have bel_3 : Chg F w v1 := bel0.old hbv1
  clear hS bel0 hbv1
  have geR : w.heap.size ≤ R := by have := Re.out; have := bel_3.size; omega
  have ltXR : X < R := by have := Re.out; have := rrv1.lt; omega
  have lRx : v1.heap.size ≤ R := by have := Re.out; omega
  clear hv2 nv2 Re
  have A_4 : SAt v2 F S r mb pin E := A_3.old hbv2
  have Q_4 : v2.rangeAt 0 0 (u32s ks) := range_block Q_3 (hbv2.block _ (range_lt Q_3 (by simp [u32s, ks])))
  have X_4 : Row v2 X 41 (scs x) := rrv1.old hbv2
  have bel_4 : Chg F w v2 := bel_3.old hbv2
  clear A_3 Q_3 rrv1 bel_3 hbv2
  have nFX : Hid (¬ F X) := Lib.hid (fun q => Nat.lt_irrefl _ (Nat.lt_of_lt_of_le (LI.out _ q) geX))
  have nFR : Hid (¬ F R) := Lib.hid (fun q => Nat.lt_irrefl _ (Nat.lt_of_lt_of_le (LI.out _ q) geR))
  refine (CH.out _ Q_4).mono ?_
  rintro e y5 ⟨rfl, hB⟩
  have A_6 : SAt y5 F S r mb pin E := A_4.old hB
  have Q_6 : y5.rangeAt 0 0 (u32s ks) := range_block Q_4 (hB.block _ (range_lt Q_4 (by simp [u32s, ks])))
  have X_6 : Row y5 X 41 (scs x) := X_4.old hB
  have R_6 : Row y5 R 29 (u8s zh) := rrv2.old hB
  have bel_6 : Chg F w y5 := bel_4.old hB
  clear A_4 Q_4 X_4 rrv2 bel_4 hB
  clear Q_6
  go_wp2_with (first
    | ((with_reducible refine at_slot 6 ?_); (refine arm_alloc (o := ⟨some 6, _, _, _, _, _⟩) rfl _ rfl (u8s zh) zH ?_); intro G v7a Ge hGa nG; try simp only [Act.put, List.setIfInBounds_toArray, List.set_cons_zero, List.set_cons_succ])
    | ((with_reducible refine arm_store (o := ⟨none, _, _, _, _, _⟩) rfl _ _ _ rfl G 0 rfl (u8s (digS x)) rfl _ _ hGa (fitH KH.out) (u8s_one _) (szH KH.out) ?_); intro v7 hGb oG sG; try simp only [Act.put, List.setIfInBounds_toArray, List.set_cons_zero, List.set_cons_succ]; refine fpause ?_; try simp only [Act.put, List.setIfInBounds_toArray, List.set_cons_zero, List.set_cons_succ]))
  have lG : y5.heap.size ≤ G := by have := Ge.out; omega
  have bG : Below y5.heap.size y5 v7 := below_only nG.below oG lG nG.below.size
  have rrG : Row v7 G 29 (u8s (digS x)) := hGb.congr (allH KH.out)
  have geG : w.heap.size ≤ G := Nat.le_trans bel_6.size lG
  have lGx := lG
  clear hGa hGb nG oG sG Ge lG
  have A_8 : SAt v7 F S r mb pin E := A_6.old bG
  have X_8 : Row v7 X 41 (scs x) := X_6.old bG
  have R_8 : Row v7 R 29 (u8s zh) := R_6.old bG
  have bel_8 : Chg F w v7 := bel_6.old bG
  clear A_6 X_6 R_6 bel_6 bG
  refine fgo ?_
  have nFG : Hid (¬ F G) := Lib.hid (fun q => Nat.lt_irrefl _ (Nat.lt_of_lt_of_le (LI.out _ q) geG))
  go_wp2_with (first
    | ((with_reducible refine at_slot 10 ?_); (refine arm_load (o := ⟨some 10, _, _, _, _, _⟩) rfl _ _ rfl G 0 rfl (u8s (digS x)) ((Has.refl _).range rrG) (szH KH.out) ?_); try simp only [Act.put, List.setIfInBounds_toArray, List.set_cons_zero, List.set_cons_succ]))
  refine (CI.out _ A_8).mono ?_
  rintro e y9 ⟨rfl, hA1, hc⟩
  have X_10 : Row y9 X 41 (scs x) := X_8.chg hc nFX.out
  have R_10 : Row y9 R 29 (u8s zh) := R_8.chg hc nFR.out
  have G_10 : Row y9 G 29 (u8s (digS x)) := rrG.chg hc nFG.out
  have bel_10 : Chg F w y9 := bel_8.step hc
  clear X_8 R_8 rrG bel_8 hc
  go_wp2_with (first
    | ((with_reducible refine at_slot 13 ?_); (refine arm_load (o := ⟨some 13, _, _, _, _, _⟩) rfl _ _ rfl G 0 rfl (u8s (digS x)) ((Has.refl _).range G_10) (szH KH.out) ?_); try simp only [Act.put, List.setIfInBounds_toArray, List.set_cons_zero, List.set_cons_succ])
    | ((with_reducible refine at_slot 14 ?_); (refine arm_load (o := ⟨some 14, _, _, _, _, _⟩) rfl _ _ rfl X 0 rfl (scs x) ((Has.refl _).range X_10) (sz_sta KX.out) ?_); try simp only [Act.put, List.setIfInBounds_toArray, List.set_cons_zero, List.set_cons_succ]))
  have GE := Lib.hid bel_10.size
  have RLT := Lib.hid R_10.lt
  refine (CP.out _ hA1).mono ?_
  rintro e y11 hpost
  obtain ⟨rfl, ⟨F2, E2, hA2, hE2, hG2⟩, hc⟩ := HQ.out _ _ _ _ hpost
  clear hpost
  have X_12 : Row y11 X 41 (scs x) := X_10.chg hc nFX.out
  have R_12 : Row y11 R 29 (u8s zh) := R_10.chg hc nFR.out
  have G_12 : Row y11 G 29 (u8s (digS x)) := G_10.chg hc nFG.out
  have bel_12 : Chg F w y11 := bel_10.step hc
  clear X_10 R_10 G_10 bel_10 hc
  have nRF : Hid (¬ F2 R) := Lib.hid (fun q => (hG2 R q).elim nFR.out (fun z => Nat.lt_irrefl _ (Nat.lt_of_lt_of_le RLT.out z)))
  go_wp2_with (first
    | ((with_reducible refine arm_store (o := ⟨none, _, _, _, _, _⟩) rfl _ _ _ rfl R 0 rfl (u8s d) rfl _ _ (R_12) (fitH KG.out) (u8s_one _) (szH KG.out) ?_); intro y9 hy9 oy9 sy9; try simp only [Act.put, List.setIfInBounds_toArray, List.set_cons_zero, List.set_cons_succ]))
  have hc9 := bel_12.new oy9 geR
  have hA9 := hA2.only oy9 nRF.out
  exact bodyPost_ret (result_row2 (p := 4) (u := 5) (ty := 29) (t := 29) (by kernel_rfl) _ _ R (u8s d) (.bool v) rfl rfl (hy9.congr (allH KG.out)) (szH KG.out)) rfl (HR.out _ ⟨F2, E2, hA9, hE2, hG2.less GE.out⟩ hc9)
end Go.Proofs.YtnjmocobncncdaaDoor.So
