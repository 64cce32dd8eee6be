/-
  The contracts of the store's rising (all digests by their states' keys) and least (the one that is given up). Over this seat's translation.
-/
import Derived.Test.YtnjmocobncncdaaDoorStoSort
namespace Go.Proofs.YtnjmocobncncdaaDoor.So
open Go.ChangeShapes Go.WideShapes Go.ChangeAt Go.RowKit Go.Proofs.YtnjmocobncncdaaDoor.Mem Go.Proofs.YtnjmocobncncdaaDoor.Bt Go.Proofs.YtnjmocobncncdaaDoor.Km
open Go.Proofs.YtnjmocobncncdaaDoor.Ep (H32 zh zh_ok Has h_len szH zH fitH allH one_app num32)
open Go.Proofs.YtnjmocobncncdaaDoor.Sl (Kind At bk)
open Go.Proofs.YtnjmocobncncdaaDoor.Sa (Sta scs digS digS_ok sz_sta h_drw h_lngth)
open Go.Proofs.YtnjmocobncncdaaDoor.Od (Ky kcs keyN keyN_ok kcs_len kcs_one kcmp kval zk z_key sz_key fitK allK built_key compare_anyD)
set_option linter.unusedVariables false
set_option linter.unusedSimpArgs false

theorem pcs_34 {r mb : Nat} {pin : Option (List Nat)} (h : H32 (pin.getD zh)) : (pcs r mb pin)[34]? = some (.bool pin.isSome) := by
  have hl := h_len h
  unfold pcs
  rw [List.getElem?_append_right (by rw [List.length_append, hl]; exact Nat.le_refl _), List.length_append, hl]
  rfl
theorem pcs_2 {r mb : Nat} {pin : Option (List Nat)} : Has (pcs r mb pin) 2 (u8s (pin.getD zh)) := ⟨_, _, by unfold pcs; rw [List.append_assoc], rfl⟩
theorem at_range {w : World} {g i : Nat} {l : List (List Nat)} {x : List Nat} (h : Sl.At kD w (some ⟨g, 0, none⟩) l) (hi : l[i]? = some x) : w.rangeAt g (0 + i * 32) (u8s x) := by
  obtain ⟨g', o', e, _, hr⟩ := h.at_ i _ hi
  obtain ⟨rfl, rfl⟩ : g = g' ∧ 0 = o' := by simpa using e
  exact hr
theorem keysP_any (mb : Nat) (w : World) : Calls Tryd.prog 38 #[.map (some mb)] w fun e w' => ∃ K, e = .returned (.func (.func 51) #[] #[.pointer (some ⟨K, 0, none⟩)]) ∧ Row w' K 65 [.map (some mb)] ∧ Below w.heap.size w w' :=
  (keys_any mb w).mono fun e w' ⟨h1, h2⟩ => ⟨w.heap.size, h1, by rw [h2]; exact heap_alloc_new _ _, by rw [h2]; exact (new_alloc _ _).below⟩
structure RisePost (w : World) (L : List Sta) (e : Ending) (w' : World) : Prop where
  ret : ∃ p cap, e = .returned (.slice p L.length cap) ∧ Sl.Own kD w' w.heap.size p cap (L.map digS)
  bel : Below w.heap.size w w'
set_option maxHeartbeats 4000000 in
set_option maxRecDepth 100000 in
theorem rising_any (F : Nat → Prop) (S r mb : Nat) (pin : Option (List Nat)) (E : Ents) (L : List Sta) (w : World) (hS : SAt w F S r mb pin E) (hL : Rise vK L) (hE : (E.map Prod.fst).Perm L) (hl : L.length ≤ 1000) :
    Calls Tryd.prog 24 #[.pointer (some ⟨S, 0, none⟩)] w (RisePost w L) := by
  have HEL : Hid (∀ ds : List (List Nat), ds.Perm ((E.map entD).map Prod.fst) → ds.Perm (E.map fun p => digS p.1) ∧ ds.length = L.length) := Lib.hid fun ds h => by
    rw [List.map_map] at h
    exact ⟨h, by rw [h.length_eq, List.length_map, ← hE.length_eq, List.length_map]⟩
  have HLL : Hid ((E.map entD).length ≤ 1000000) := Lib.hid (by rw [List.length_map, ← List.length_map (f := Prod.fst), hE.length_eq]; omega)
  have EH := Lib.hid (ent_hash hS)
  have CS := Lib.hid (fun B base p cap ds w0 a1 a2 a3 a4 a5 a6 a7 => sort_any F S r mb pin E L B base p cap ds w0 a1 a2 a3 a4 a5 a6 a7 hL hE (by omega))
  clear hL hE hl
  go_enter Tryd.func24, Tryd.ntmps24
  have bel0 : Chg (fun _ => False) w w := Chg.refl _ _
  go_wp2_with (first
    | ((with_reducible refine at_slot 1 ?_); (refine arm_box1 (o := ⟨some 1, _, _, _, _, _⟩) rfl _ _ rfl (.pointer (some ⟨S, 0, none⟩)) rfl rfl ?_); intro B v1 Be hv1 nv1; try simp only [Act.put, List.setIfInBounds_toArray, List.set_cons_zero, List.set_cons_succ])
    | ((with_reducible refine at_slot 4 ?_); (refine arm_want (.pointer (some ⟨S, 0, none⟩)) 4 rfl (by kernel_rfl) (run_op_load1 _ _ rfl (.pointer 67) (by kernel_rfl) rfl ⟨B, 0, none⟩ rfl (.pointer (some ⟨S, 0, none⟩)) (hv1.cell rfl)) ?_); try simp only [Act.put, List.setIfInBounds_toArray, List.set_cons_zero, List.set_cons_succ])
    | ((with_reducible refine at_slot 7 ?_); (refine arm_want (.map (some mb)) 7 rfl (by kernel_rfl) (run_op_load1 _ _ rfl (.map 29 71) (by kernel_rfl) rfl ⟨S, 1, none⟩ rfl (.map (some mb)) ((hS.row.old nv1.below).cell (i := 1) rfl)) ?_); try simp only [Act.put, List.setIfInBounds_toArray, List.set_cons_zero, List.set_cons_succ]))
  have hbv1 := nv1.below
  have rrv1 : Row v1 B 24 ([.pointer (some ⟨S, 0, none⟩)]) := hv1
  have geB : w.heap.size ≤ B := by have := Be.out; have := bel0.size; omega
  have lBx : w.heap.size ≤ B := by have := Be.out; omega
  clear hv1 nv1 Be
  have A_2 : SAt v1 F S r mb pin E := hS.old hbv1
  have bel_2 : Chg (fun _ => False) w v1 := bel0.old hbv1
  clear hS bel0 hbv1
  refine (keysP_any mb _).mono ?_
  rintro e y3 ⟨K, rfl, rK, hB⟩
  have A_4 : SAt y3 F S r mb pin E := A_2.old hB
  have B_4 : Row y3 B 24 ([.pointer (some ⟨S, 0, none⟩)]) := rrv1.old hB
  have bel_4 : Chg (fun _ => False) w y3 := bel_2.old hB
  clear A_2 rrv1 bel_2 hB
  go_wp2_with fail
  have hFb := A_4.lies
  have hBb := B_4.lt
  have HW := Lib.hid (bel_4.below (fun k hk => hk.elim) (Nat.le_refl w.heap.size))
  refine (collect_any ptrV (E.map entD) EH.out HLL.out K mb _ rK A_4.map).mono ?_
  rintro e y5 ⟨ds, p, cap, rfl, hds, hO, hB⟩
  obtain ⟨hd1, hd2⟩ := HEL.out ds hds
  have HD2 := Lib.hid hd2
  clear hd2
  have hsz := hB.size
  have HB2 := Lib.hid hB
  clear hds
  have A_6 : SAt y5 F S r mb pin E := A_4.old hB
  have B_6 : Row y5 B 24 ([.pointer (some ⟨S, 0, none⟩)]) := B_4.old hB
  have K_6 : Row y5 K 65 [.map (some mb)] := rK.old hB
  have bel_6 : Chg (fun _ => False) w y5 := bel_4.old hB
  clear A_4 B_4 rK bel_4 hB
  go_wp2_with fail
  refine (CS.out B y3.heap.size p cap ds _ A_6 hFb B_6 hBb hsz hO hd1).mono ?_
  rintro e y9 ⟨rfl, hO2, hb2⟩
  go_wp2_with fail
  go_ret
  exact ⟨⟨p, cap, congrArg (fun n => Ending.returned (Value.slice p n cap)) HD2.out, Sl.Own.low hO2 HW.out.size⟩, HW.out.trans ((HB2.out.mono HW.out.size).trans (hb2.mono HW.out.size))⟩
theorem run_op_eqlW {o : Oper} {a : Act} (x y : Operand) (t' : TypeId) (ho : o.op = .binOp .eql 29 x y t') (xs ys : List Nat) (hlx : H32 xs) (hly : H32 ys) (hx : a.eval x = .agg (u8s xs).toArray) (hy : a.eval y = .agg (u8s ys).toArray) (b : Bool) (hb : decide (xs = ys) = b) (w : World) : (execOp a.eval o).run Tryd.prog w = .ok (.value (.bool b)) w := by
  subst hb
  exact Sha.run_op_eql2 x y t' ho xs ys hlx.len hly.len hx hy w
set_option maxHeartbeats 4000000 in
set_option maxRecDepth 100000 in
theorem least_any (F : Nat → Prop) (S r mb : Nat) (pin : Option (List Nat)) (E : Ents) (L : List Sta) (w : World) (hS : SAt w F S r mb pin E) (hL : Rise vK L) (hE : (E.map Prod.fst).Perm L) (hl : L.length ≤ 1000) (x0 x1 : Sta) (h0 : L[0]? = some x0) (h1 : L[1]? = some x1) :
    Calls Tryd.prog 36 #[.pointer (some ⟨S, 0, none⟩)] w fun e w' => e = .returned (.agg (u8s (if pin = some (digS x0) then digS x1 else digS x0)).toArray) ∧ Below w.heap.size w w' := by
  have CR := Lib.hid (fun w0 a => rising_any F S r mb pin E L w0 a hL hE hl)
  have K0 := Lib.hid (digS_ok x0); have K1 := Lib.hid (digS_ok x1)
  have PO := Lib.hid (pin_ok' hS.pok)
  have HL2 : Hid (1 < L.length) := Lib.hid (List.getElem?_eq_some_iff.1 h1).1
  have HD0 : Hid ((L.map digS)[0]? = some (digS x0)) := Lib.hid (by rw [List.getElem?_map, h0]; rfl)
  have HD1 : Hid ((L.map digS)[1]? = some (digS x1)) := Lib.hid (by rw [List.getElem?_map, h1]; rfl)
  clear hL hE hl h0 h1
  cases pin with
  | none =>
    have HC : Hid (¬ (none : Option (List Nat)) = some (digS x0)) := Lib.hid (fun q => (by cases q))
    go_enter Tryd.func36, Tryd.ntmps36
    have bel0 : Chg (fun _ => False) w w := Chg.refl _ _
    go_wp2_with (first
      | ((with_reducible refine at_slot 2 ?_); (refine arm_alloc (o := ⟨some 2, _, _, _, _, _⟩) rfl _ rfl (u8s zh) zH ?_); intro R v1 Re hv1 nv1; try simp only [Act.put, List.setIfInBounds_toArray, List.set_cons_zero, List.set_cons_succ]))
    have hbv1 := nv1.below
    have rrv1 : Row v1 R 29 (u8s zh) := hv1
    have geR : w.heap.size ≤ R := by have := Re.out; have := bel0.size; omega
    have lRx : w.heap.size ≤ R := by have := Re.out; omega
    clear hv1 nv1 Re
    have A_2 : SAt v1 F S r mb none E := hS.old hbv1
    have bel_2 : Chg (fun _ => False) w v1 := bel0.old hbv1
    clear hS bel0 hbv1
    refine (CR.out _ A_2).mono ?_
    rintro e y3 ⟨⟨p, cap, rfl, hO⟩, hB⟩
    have HO := Lib.hid hO
    clear hO
    have A_4 : SAt y3 F S r mb none E := A_2.old hB
    have R_4 : Row y3 R 29 (u8s zh) := rrv1.old hB
    have bel_4 : Chg (fun _ => False) w y3 := bel_2.old hB
    clear A_2 rrv1 bel_2 hB
    obtain ⟨g, cur, rfl, hg, hcur, hcap, hmx, hsz, htk⟩ := own_row HO.out (by intro e; rw [e] at HD0; exact absurd HD0.out (by simp))
    have hAt := HO.out.at fD
    clear hcur hcap hmx hsz htk hg
    have lL : (0 : Nat) < L.length := by have := HL2.out; omega
    have lL1 : (1 : Nat) < L.length := HL2.out
    have hrow := A_4.row
    go_wp2_with fail
    refine wp_region_held (S := fun w' => Row w' S 67 (pcs r mb none) ∧ Sl.At kD w' (some ⟨g, 0, none⟩) (L.map digS) ∧ True) (by kernel_rfl) ?_
    change wpAnyH _ _ _ _ _ _ _ _ y3.drew
    have hd5 : Below y3.heap.size y3 y3.drew := (Below.refl _ _).drew
    have A_6 : SAt y3.drew F S r mb none E := A_4.old hd5
    have R_6 : Row y3.drew R 29 (u8s zh) := R_4.old hd5
    have O_6 : Sl.At kD y3.drew (some ⟨g, 0, none⟩) (L.map digS) := hAt.below hd5
    have S_6 : Row y3.drew S 67 (pcs r mb none) := hrow.old hd5
    have bel_6 : Chg (fun _ => False) w y3.drew := bel_4.old hd5
    clear A_4 R_4 hAt hrow bel_4 hd5
    generalize y3.drew = yz5 at A_6 R_6 O_6 S_6 bel_6 ⊢
    refine h_take 0 (.pointer (some ⟨S, 0, none⟩)) rfl 6 rfl (by kernel_rfl) (by kernel_rfl) (by kernel_rfl) (by kernel_rfl) (fun _ _ _ h => h) (fun w' _ => by kernel_rfl) ⟨S_6, O_6, trivial⟩ ?_
    simp only [Act.put, List.setIfInBounds_toArray, List.set_cons_zero, List.set_cons_succ]
    refine h_take 1 (.pointer (some ⟨S, 0, none⟩)) rfl 7 rfl (by kernel_rfl) (by kernel_rfl) (by kernel_rfl) (by kernel_rfl) (fun _ _ _ h => h) (fun w' _ => by kernel_rfl) ⟨S_6, O_6, trivial⟩ ?_
    simp only [Act.put, List.setIfInBounds_toArray, List.set_cons_zero, List.set_cons_succ]
    refine h_take 2 (.pointer (some ⟨S, 34, none⟩)) rfl 8 rfl (by kernel_rfl) (by kernel_rfl) (by kernel_rfl) (by kernel_rfl) (fun _ _ _ h => h) (fun w' _ => by kernel_rfl) ⟨S_6, O_6, trivial⟩ ?_
    simp only [Act.put, List.setIfInBounds_toArray, List.set_cons_zero, List.set_cons_succ]
    refine h_take 3 (.bool false) rfl 9 rfl (by kernel_rfl) (by kernel_rfl) (by kernel_rfl) (by kernel_rfl) (fun _ _ _ h => h) (fun w' hw => run_op_load1 _ _ rfl (.bool) (by kernel_rfl) rfl ⟨S, 34, none⟩ rfl (.bool false) (hw.1.cell (pcs_34 (pin := none) PO.out))) ⟨S_6, O_6, trivial⟩ ?_
    simp only [Act.put, List.setIfInBounds_toArray, List.set_cons_zero, List.set_cons_succ]
    refine h_take 4 (.bool false) rfl 10 rfl (by kernel_rfl) (by kernel_rfl) (by kernel_rfl) (by kernel_rfl) (fun _ _ _ h => h) (fun w' _ => by kernel_rfl) ⟨S_6, O_6, trivial⟩ ?_
    simp only [Act.put, List.setIfInBounds_toArray, List.set_cons_zero, List.set_cons_succ]
    refine h_pass 5 rfl 11 rfl (by kernel_rfl) (by kernel_rfl) (by kernel_rfl) (by kernel_rfl) (fun _ _ _ h => h) ⟨S_6, O_6, trivial⟩ ?_
    simp only [Act.put, List.setIfInBounds_toArray, List.set_cons_zero, List.set_cons_succ]
    refine h_pass 6 rfl 12 rfl (by kernel_rfl) (by kernel_rfl) (by kernel_rfl) (by kernel_rfl) (fun _ _ _ h => h) ⟨S_6, O_6, trivial⟩ ?_
    simp only [Act.put, List.setIfInBounds_toArray, List.set_cons_zero, List.set_cons_succ]
    refine h_pass 7 rfl 13 rfl (by kernel_rfl) (by kernel_rfl) (by kernel_rfl) (by kernel_rfl) (fun _ _ _ h => h) ⟨S_6, O_6, trivial⟩ ?_
    simp only [Act.put, List.setIfInBounds_toArray, List.set_cons_zero, List.set_cons_succ]
    refine h_pass 8 rfl 14 rfl (by kernel_rfl) (by kernel_rfl) (by kernel_rfl) (by kernel_rfl) (fun _ _ _ h => h) ⟨S_6, O_6, trivial⟩ ?_
    simp only [Act.put, List.setIfInBounds_toArray, List.set_cons_zero, List.set_cons_succ]
    refine h_pass 9 rfl 15 rfl (by kernel_rfl) (by kernel_rfl) (by kernel_rfl) (by kernel_rfl) (fun _ _ _ h => h) ⟨S_6, O_6, trivial⟩ ?_
    simp only [Act.put, List.setIfInBounds_toArray, List.set_cons_zero, List.set_cons_succ]
    refine h_pass 10 rfl 16 rfl (by kernel_rfl) (by kernel_rfl) (by kernel_rfl) (by kernel_rfl) (fun _ _ _ h => h) ⟨S_6, O_6, trivial⟩ ?_
    simp only [Act.put, List.setIfInBounds_toArray, List.set_cons_zero, List.set_cons_succ]
    refine h_pass 11 rfl 17 rfl (by kernel_rfl) (by kernel_rfl) (by kernel_rfl) (by kernel_rfl) (fun _ _ _ h => h) ⟨S_6, O_6, trivial⟩ ?_
    simp only [Act.put, List.setIfInBounds_toArray, List.set_cons_zero, List.set_cons_succ]
    refine h_pass 12 rfl 18 rfl (by kernel_rfl) (by kernel_rfl) (by kernel_rfl) (by kernel_rfl) (fun _ _ _ h => h) ⟨S_6, O_6, trivial⟩ ?_
    simp only [Act.put, List.setIfInBounds_toArray, List.set_cons_zero, List.set_cons_succ]
    refine h_take 13 (.bool false) rfl 19 rfl (by kernel_rfl) (by kernel_rfl) (by kernel_rfl) (by kernel_rfl) (fun _ _ _ h => h) (fun w' _ => by kernel_rfl) ⟨S_6, O_6, trivial⟩ ?_
    simp only [Act.put, List.setIfInBounds_toArray, List.set_cons_zero, List.set_cons_succ]
    refine wpAnyH_done (by kernel_rfl) ?_ _
    go_wp2_with (first
      | ((with_reducible refine at_slot 24 ?_); (refine arm_want (.pointer (some ⟨g, 0 + 0 * 32, none⟩)) 24 rfl (by kernel_rfl) (Sl.run_op_index fD _ _ rfl g 0 _ _ rfl .i64 _ rfl 0 rfl lL _) ?_); try simp only [Act.put, List.setIfInBounds_toArray, List.set_cons_zero, List.set_cons_succ])
      | ((with_reducible refine at_slot 25 ?_); (refine arm_load (o := ⟨some 25, _, _, _, _, _⟩) rfl _ _ rfl g (0 + 0 * 32) rfl (u8s (digS x0)) (at_range O_6 HD0.out) (szH K0.out) ?_); try simp only [Act.put, List.setIfInBounds_toArray, List.set_cons_zero, List.set_cons_succ])
      | ((with_reducible refine arm_store (o := ⟨none, _, _, _, _, _⟩) rfl _ _ _ rfl R 0 rfl (u8s (digS x0)) rfl _ _ (R_6) (fitH K0.out) (u8s_one _) (szH K0.out) ?_); intro y8 hy8 oy8 sy8; try simp only [Act.put, List.setIfInBounds_toArray, List.set_cons_zero, List.set_cons_succ]))
    have rR8 : Row y8 R 29 (u8s (digS x0)) := hy8.congr (allH K0.out)
    have hb8 := bel_6.new oy8 (geR)
    exact bodyPost_ret (v := .agg (u8s (digS x0)).toArray) (result_row (p := 2) (ty := 29) (u := 29) (by kernel_rfl) _ _ R (u8s (digS x0)) rfl rR8 (szH K0.out)) rfl ⟨by first | rfl | rw [if_neg HC.out], hb8.below (fun k hk => hk.elim) (Nat.le_refl _)⟩
  | some h =>
    by_cases hv : digS x0 = h
    · have HV : Hid (decide (digS x0 = h) = true) := Lib.hid (decide_eq_true hv)
      have HC : Hid (some h = some (digS x0)) := Lib.hid (by rw [hv])
      clear hv
      go_enter Tryd.func36, Tryd.ntmps36
      have bel0 : Chg (fun _ => False) w w := Chg.refl _ _
      go_wp2_with (first
        | ((with_reducible refine at_slot 2 ?_); (refine arm_alloc (o := ⟨some 2, _, _, _, _, _⟩) rfl _ rfl (u8s zh) zH ?_); intro R v1 Re hv1 nv1; try simp only [Act.put, List.setIfInBounds_toArray, List.set_cons_zero, List.set_cons_succ]))
      have hbv1 := nv1.below
      have rrv1 : Row v1 R 29 (u8s zh) := hv1
      have geR : w.heap.size ≤ R := by have := Re.out; have := bel0.size; omega
      have lRx : w.heap.size ≤ R := by have := Re.out; omega
      clear hv1 nv1 Re
      have A_2 : SAt v1 F S r mb (some h) E := hS.old hbv1
      have bel_2 : Chg (fun _ => False) w v1 := bel0.old hbv1
      clear hS bel0 hbv1
      refine (CR.out _ A_2).mono ?_
      rintro e y3 ⟨⟨p, cap, rfl, hO⟩, hB⟩
      have HO := Lib.hid hO
      clear hO
      have A_4 : SAt y3 F S r mb (some h) E := A_2.old hB
      have R_4 : Row y3 R 29 (u8s zh) := rrv1.old hB
      have bel_4 : Chg (fun _ => False) w y3 := bel_2.old hB
      clear A_2 rrv1 bel_2 hB
      obtain ⟨g, cur, rfl, hg, hcur, hcap, hmx, hsz, htk⟩ := own_row HO.out (by intro e; rw [e] at HD0; exact absurd HD0.out (by simp))
      have hAt := HO.out.at fD
      clear hcur hcap hmx hsz htk hg
      have lL : (0 : Nat) < L.length := by have := HL2.out; omega
      have lL1 : (1 : Nat) < L.length := HL2.out
      have hrow := A_4.row
      go_wp2_with fail
      refine wp_region_held (S := fun w' => Row w' S 67 (pcs r mb (some h)) ∧ Sl.At kD w' (some ⟨g, 0, none⟩) (L.map digS) ∧ True) (by kernel_rfl) ?_
      change wpAnyH _ _ _ _ _ _ _ _ y3.drew
      have hd5 : Below y3.heap.size y3 y3.drew := (Below.refl _ _).drew
      have A_6 : SAt y3.drew F S r mb (some h) E := A_4.old hd5
      have R_6 : Row y3.drew R 29 (u8s zh) := R_4.old hd5
      have O_6 : Sl.At kD y3.drew (some ⟨g, 0, none⟩) (L.map digS) := hAt.below hd5
      have S_6 : Row y3.drew S 67 (pcs r mb (some h)) := hrow.old hd5
      have bel_6 : Chg (fun _ => False) w y3.drew := bel_4.old hd5
      clear A_4 R_4 hAt hrow bel_4 hd5
      generalize y3.drew = yz5 at A_6 R_6 O_6 S_6 bel_6 ⊢
      refine h_take 0 (.pointer (some ⟨S, 0, none⟩)) rfl 6 rfl (by kernel_rfl) (by kernel_rfl) (by kernel_rfl) (by kernel_rfl) (fun _ _ _ h => h) (fun w' _ => by kernel_rfl) ⟨S_6, O_6, trivial⟩ ?_
      simp only [Act.put, List.setIfInBounds_toArray, List.set_cons_zero, List.set_cons_succ]
      refine h_take 1 (.pointer (some ⟨S, 0, none⟩)) rfl 7 rfl (by kernel_rfl) (by kernel_rfl) (by kernel_rfl) (by kernel_rfl) (fun _ _ _ h => h) (fun w' _ => by kernel_rfl) ⟨S_6, O_6, trivial⟩ ?_
      simp only [Act.put, List.setIfInBounds_toArray, List.set_cons_zero, List.set_cons_succ]
      refine h_take 2 (.pointer (some ⟨S, 34, none⟩)) rfl 8 rfl (by kernel_rfl) (by kernel_rfl) (by kernel_rfl) (by kernel_rfl) (fun _ _ _ h => h) (fun w' _ => by kernel_rfl) ⟨S_6, O_6, trivial⟩ ?_
      simp only [Act.put, List.setIfInBounds_toArray, List.set_cons_zero, List.set_cons_succ]
      refine h_take 3 (.bool true) rfl 9 rfl (by kernel_rfl) (by kernel_rfl) (by kernel_rfl) (by kernel_rfl) (fun _ _ _ h => h) (fun w' hw => run_op_load1 _ _ rfl (.bool) (by kernel_rfl) rfl ⟨S, 34, none⟩ rfl (.bool true) (hw.1.cell (pcs_34 (pin := some h) PO.out))) ⟨S_6, O_6, trivial⟩ ?_
      simp only [Act.put, List.setIfInBounds_toArray, List.set_cons_zero, List.set_cons_succ]
      refine h_take 4 (.bool true) rfl 10 rfl (by kernel_rfl) (by kernel_rfl) (by kernel_rfl) (by kernel_rfl) (fun _ _ _ h => h) (fun w' _ => by kernel_rfl) ⟨S_6, O_6, trivial⟩ ?_
      simp only [Act.put, List.setIfInBounds_toArray, List.set_cons_zero, List.set_cons_succ]
      refine h_take 5 (.slice (some ⟨g, 0, none⟩) L.length cap) rfl 11 rfl (by kernel_rfl) (by kernel_rfl) (by kernel_rfl) (by kernel_rfl) (fun _ _ _ h => h) (fun w' _ => by kernel_rfl) ⟨S_6, O_6, trivial⟩ ?_
      simp only [Act.put, List.setIfInBounds_toArray, List.set_cons_zero, List.set_cons_succ]
      refine h_take 6 (.pointer (some ⟨g, 0 + 0 * 32, none⟩)) rfl 12 rfl (by kernel_rfl) (by kernel_rfl) (by kernel_rfl) (by kernel_rfl) (fun _ _ _ h => h) (fun w' _ => Sl.run_op_index fD _ _ rfl g 0 _ _ rfl .i64 _ rfl 0 rfl lL w') ⟨S_6, O_6, trivial⟩ ?_
      simp only [Act.put, List.setIfInBounds_toArray, List.set_cons_zero, List.set_cons_succ]
      refine h_take 7 (.agg (u8s (digS x0)).toArray) rfl 13 rfl (by kernel_rfl) (by kernel_rfl) (by kernel_rfl) (by kernel_rfl) (fun _ _ _ h => h) (fun w' hw => run_op_load _ _ rfl g (0 + 0 * 32) rfl (u8s (digS x0)) (at_range hw.2.1 HD0.out) (szH K0.out)) ⟨S_6, O_6, trivial⟩ ?_
      simp only [Act.put, List.setIfInBounds_toArray, List.set_cons_zero, List.set_cons_succ]
      refine h_take 8 (.pointer (some ⟨S, 0, none⟩)) rfl 14 rfl (by kernel_rfl) (by kernel_rfl) (by kernel_rfl) (by kernel_rfl) (fun _ _ _ h => h) (fun w' _ => by kernel_rfl) ⟨S_6, O_6, trivial⟩ ?_
      simp only [Act.put, List.setIfInBounds_toArray, List.set_cons_zero, List.set_cons_succ]
      refine h_take 9 (.pointer (some ⟨S, 0, none⟩)) rfl 15 rfl (by kernel_rfl) (by kernel_rfl) (by kernel_rfl) (by kernel_rfl) (fun _ _ _ h => h) (fun w' _ => by kernel_rfl) ⟨S_6, O_6, trivial⟩ ?_
      simp only [Act.put, List.setIfInBounds_toArray, List.set_cons_zero, List.set_cons_succ]
      refine h_take 10 (.pointer (some ⟨S, 2, none⟩)) rfl 16 rfl (by kernel_rfl) (by kernel_rfl) (by kernel_rfl) (by kernel_rfl) (fun _ _ _ h => h) (fun w' _ => by kernel_rfl) ⟨S_6, O_6, trivial⟩ ?_
      simp only [Act.put, List.setIfInBounds_toArray, List.set_cons_zero, List.set_cons_succ]
      refine h_take 11 (.agg (u8s h).toArray) rfl 17 rfl (by kernel_rfl) (by kernel_rfl) (by kernel_rfl) (by kernel_rfl) (fun _ _ _ h => h) (fun w' hw => run_op_load _ _ rfl S 2 rfl (u8s h) ((pcs_2 (pin := some h)).range hw.1) (szH PO.out)) ⟨S_6, O_6, trivial⟩ ?_
      simp only [Act.put, List.setIfInBounds_toArray, List.set_cons_zero, List.set_cons_succ]
      refine h_take 12 (.bool true) rfl 18 rfl (by kernel_rfl) (by kernel_rfl) (by kernel_rfl) (by kernel_rfl) (fun _ _ _ h => h) (fun w' _ => run_op_eqlW _ _ _ rfl (digS x0) h K0.out PO.out rfl rfl true HV.out w') ⟨S_6, O_6, trivial⟩ ?_
      simp only [Act.put, List.setIfInBounds_toArray, List.set_cons_zero, List.set_cons_succ]
      refine h_take 13 (.bool true) rfl 19 rfl (by kernel_rfl) (by kernel_rfl) (by kernel_rfl) (by kernel_rfl) (fun _ _ _ h => h) (fun w' _ => by kernel_rfl) ⟨S_6, O_6, trivial⟩ ?_
      simp only [Act.put, List.setIfInBounds_toArray, List.set_cons_zero, List.set_cons_succ]
      refine wpAnyH_done (by kernel_rfl) ?_ _
      go_wp2_with (first
        | ((with_reducible refine at_slot 21 ?_); (refine arm_want (.pointer (some ⟨g, 0 + 1 * 32, none⟩)) 21 rfl (by kernel_rfl) (Sl.run_op_index fD _ _ rfl g 0 _ _ rfl .i64 _ rfl 1 rfl lL1 _) ?_); try simp only [Act.put, List.setIfInBounds_toArray, List.set_cons_zero, List.set_cons_succ])
        | ((with_reducible refine at_slot 22 ?_); (refine arm_load (o := ⟨some 22, _, _, _, _, _⟩) rfl _ _ rfl g (0 + 1 * 32) rfl (u8s (digS x1)) (at_range O_6 HD1.out) (szH K1.out) ?_); try simp only [Act.put, List.setIfInBounds_toArray, List.set_cons_zero, List.set_cons_succ])
        | ((with_reducible refine arm_store (o := ⟨none, _, _, _, _, _⟩) rfl _ _ _ rfl R 0 rfl (u8s (digS x1)) rfl _ _ (R_6) (fitH K1.out) (u8s_one _) (szH K1.out) ?_); intro y8 hy8 oy8 sy8; try simp only [Act.put, List.setIfInBounds_toArray, List.set_cons_zero, List.set_cons_succ]))
      have rR8 : Row y8 R 29 (u8s (digS x1)) := hy8.congr (allH K1.out)
      have hb8 := bel_6.new oy8 (geR)
      exact bodyPost_ret (v := .agg (u8s (digS x1)).toArray) (result_row (p := 2) (ty := 29) (u := 29) (by kernel_rfl) _ _ R (u8s (digS x1)) rfl rR8 (szH K1.out)) rfl ⟨by first | rfl | rw [if_pos HC.out], hb8.below (fun k hk => hk.elim) (Nat.le_refl _)⟩
    · have HV : Hid (decide (digS x0 = h) = false) := Lib.hid (decide_eq_false hv)
      have HC : Hid (¬ some h = some (digS x0)) := Lib.hid (fun q => hv (Option.some.inj q).symm)
      clear hv
      go_enter Tryd.func36, Tryd.ntmps36
      have bel0 : Chg (fun _ => False) w w := Chg.refl _ _
      go_wp2_with (first
        | ((with_reducible refine at_slot 2 ?_); (refine arm_alloc (o := ⟨some 2, _, _, _, _, _⟩) rfl _ rfl (u8s zh) zH ?_); intro R v1 Re hv1 nv1; try simp only [Act.put, List.setIfInBounds_toArray, List.set_cons_zero, List.set_cons_succ]))
      have hbv1 := nv1.below
      have rrv1 : Row v1 R 29 (u8s zh) := hv1
      have geR : w.heap.size ≤ R := by have := Re.out; have := bel0.size; omega
      have lRx : w.heap.size ≤ R := by have := Re.out; omega
      clear hv1 nv1 Re
      have A_2 : SAt v1 F S r mb (some h) E := hS.old hbv1
      have bel_2 : Chg (fun _ => False) w v1 := bel0.old hbv1
      clear hS bel0 hbv1
      refine (CR.out _ A_2).mono ?_
      rintro e y3 ⟨⟨p, cap, rfl, hO⟩, hB⟩
      have HO := Lib.hid hO
      clear hO
      have A_4 : SAt y3 F S r mb (some h) E := A_2.old hB
      have R_4 : Row y3 R 29 (u8s zh) := rrv1.old hB
      have bel_4 : Chg (fun _ => False) w y3 := bel_2.old hB
      clear A_2 rrv1 bel_2 hB
      obtain ⟨g, cur, rfl, hg, hcur, hcap, hmx, hsz, htk⟩ := own_row HO.out (by intro e; rw [e] at HD0; exact absurd HD0.out (by simp))
      have hAt := HO.out.at fD
      clear hcur hcap hmx hsz htk hg
      have lL : (0 : Nat) < L.length := by have := HL2.out; omega
      have lL1 : (1 : Nat) < L.length := HL2.out
      have hrow := A_4.row
      go_wp2_with fail
      refine wp_region_held (S := fun w' => Row w' S 67 (pcs r mb (some h)) ∧ Sl.At kD w' (some ⟨g, 0, none⟩) (L.map digS) ∧ True) (by kernel_rfl) ?_
      change wpAnyH _ _ _ _ _ _ _ _ y3.drew
      have hd5 : Below y3.heap.size y3 y3.drew := (Below.refl _ _).drew
      have A_6 : SAt y3.drew F S r mb (some h) E := A_4.old hd5
      have R_6 : Row y3.drew R 29 (u8s zh) := R_4.old hd5
      have O_6 : Sl.At kD y3.drew (some ⟨g, 0, none⟩) (L.map digS) := hAt.below hd5
      have S_6 : Row y3.drew S 67 (pcs r mb (some h)) := hrow.old hd5
      have bel_6 : Chg (fun _ => False) w y3.drew := bel_4.old hd5
      clear A_4 R_4 hAt hrow bel_4 hd5
      generalize y3.drew = yz5 at A_6 R_6 O_6 S_6 bel_6 ⊢
      refine h_take 0 (.pointer (some ⟨S, 0, none⟩)) rfl 6 rfl (by kernel_rfl) (by kernel_rfl) (by kernel_rfl) (by kernel_rfl) (fun _ _ _ h => h) (fun w' _ => by kernel_rfl) ⟨S_6, O_6, trivial⟩ ?_
      simp only [Act.put, List.setIfInBounds_toArray, List.set_cons_zero, List.set_cons_succ]
      refine h_take 1 (.pointer (some ⟨S, 0, none⟩)) rfl 7 rfl (by kernel_rfl) (by kernel_rfl) (by kernel_rfl) (by kernel_rfl) (fun _ _ _ h => h) (fun w' _ => by kernel_rfl) ⟨S_6, O_6, trivial⟩ ?_
      simp only [Act.put, List.setIfInBounds_toArray, List.set_cons_zero, List.set_cons_succ]
      refine h_take 2 (.pointer (some ⟨S, 34, none⟩)) rfl 8 rfl (by kernel_rfl) (by kernel_rfl) (by kernel_rfl) (by kernel_rfl) (fun _ _ _ h => h) (fun w' _ => by kernel_rfl) ⟨S_6, O_6, trivial⟩ ?_
      simp only [Act.put, List.setIfInBounds_toArray, List.set_cons_zero, List.set_cons_succ]
      refine h_take 3 (.bool true) rfl 9 rfl (by kernel_rfl) (by kernel_rfl) (by kernel_rfl) (by kernel_rfl) (fun _ _ _ h => h) (fun w' hw => run_op_load1 _ _ rfl (.bool) (by kernel_rfl) rfl ⟨S, 34, none⟩ rfl (.bool true) (hw.1.cell (pcs_34 (pin := some h) PO.out))) ⟨S_6, O_6, trivial⟩ ?_
      simp only [Act.put, List.setIfInBounds_toArray, List.set_cons_zero, List.set_cons_succ]
      refine h_take 4 (.bool true) rfl 10 rfl (by kernel_rfl) (by kernel_rfl) (by kernel_rfl) (by kernel_rfl) (fun _ _ _ h => h) (fun w' _ => by kernel_rfl) ⟨S_6, O_6, trivial⟩ ?_
      simp only [Act.put, List.setIfInBounds_toArray, List.set_cons_zero, List.set_cons_succ]
      refine h_take 5 (.slice (some ⟨g, 0, none⟩) L.length cap) rfl 11 rfl (by kernel_rfl) (by kernel_rfl) (by kernel_rfl) (by kernel_rfl) (fun _ _ _ h => h) (fun w' _ => by kernel_rfl) ⟨S_6, O_6, trivial⟩ ?_
      simp only [Act.put, List.setIfInBounds_toArray, List.set_cons_zero, List.set_cons_succ]
      refine h_take 6 (.pointer (some ⟨g, 0 + 0 * 32, none⟩)) rfl 12 rfl (by kernel_rfl) (by kernel_rfl) (by kernel_rfl) (by kernel_rfl) (fun _ _ _ h => h) (fun w' _ => Sl.run_op_index fD _ _ rfl g 0 _ _ rfl .i64 _ rfl 0 rfl lL w') ⟨S_6, O_6, trivial⟩ ?_
      simp only [Act.put, List.setIfInBounds_toArray, List.set_cons_zero, List.set_cons_succ]
      refine h_take 7 (.agg (u8s (digS x0)).toArray) rfl 13 rfl (by kernel_rfl) (by kernel_rfl) (by kernel_rfl) (by kernel_rfl) (fun _ _ _ h => h) (fun w' hw => run_op_load _ _ rfl g (0 + 0 * 32) rfl (u8s (digS x0)) (at_range hw.2.1 HD0.out) (szH K0.out)) ⟨S_6, O_6, trivial⟩ ?_
      simp only [Act.put, List.setIfInBounds_toArray, List.set_cons_zero, List.set_cons_succ]
      refine h_take 8 (.pointer (some ⟨S, 0, none⟩)) rfl 14 rfl (by kernel_rfl) (by kernel_rfl) (by kernel_rfl) (by kernel_rfl) (fun _ _ _ h => h) (fun w' _ => by kernel_rfl) ⟨S_6, O_6, trivial⟩ ?_
      simp only [Act.put, List.setIfInBounds_toArray, List.set_cons_zero, List.set_cons_succ]
      refine h_take 9 (.pointer (some ⟨S, 0, none⟩)) rfl 15 rfl (by kernel_rfl) (by kernel_rfl) (by kernel_rfl) (by kernel_rfl) (fun _ _ _ h => h) (fun w' _ => by kernel_rfl) ⟨S_6, O_6, trivial⟩ ?_
      simp only [Act.put, List.setIfInBounds_toArray, List.set_cons_zero, List.set_cons_succ]
      refine h_take 10 (.pointer (some ⟨S, 2, none⟩)) rfl 16 rfl (by kernel_rfl) (by kernel_rfl) (by kernel_rfl) (by kernel_rfl) (fun _ _ _ h => h) (fun w' _ => by kernel_rfl) ⟨S_6, O_6, trivial⟩ ?_
      simp only [Act.put, List.setIfInBounds_toArray, List.set_cons_zero, List.set_cons_succ]
      refine h_take 11 (.agg (u8s h).toArray) rfl 17 rfl (by kernel_rfl) (by kernel_rfl) (by kernel_rfl) (by kernel_rfl) (fun _ _ _ h => h) (fun w' hw => run_op_load _ _ rfl S 2 rfl (u8s h) ((pcs_2 (pin := some h)).range hw.1) (szH PO.out)) ⟨S_6, O_6, trivial⟩ ?_
      simp only [Act.put, List.setIfInBounds_toArray, List.set_cons_zero, List.set_cons_succ]
      refine h_take 12 (.bool false) rfl 18 rfl (by kernel_rfl) (by kernel_rfl) (by kernel_rfl) (by kernel_rfl) (fun _ _ _ h => h) (fun w' _ => run_op_eqlW _ _ _ rfl (digS x0) h K0.out PO.out rfl rfl false HV.out w') ⟨S_6, O_6, trivial⟩ ?_
      simp only [Act.put, List.setIfInBounds_toArray, List.set_cons_zero, List.set_cons_succ]
      refine h_take 13 (.bool false) rfl 19 rfl (by kernel_rfl) (by kernel_rfl) (by kernel_rfl) (by kernel_rfl) (fun _ _ _ h => h) (fun w' _ => by kernel_rfl) ⟨S_6, O_6, trivial⟩ ?_
      simp only [Act.put, List.setIfInBounds_toArray, List.set_cons_zero, List.set_cons_succ]
      refine wpAnyH_done (by kernel_rfl) ?_ _
      go_wp2_with (first
        | ((with_reducible refine at_slot 24 ?_); (refine arm_want (.pointer (some ⟨g, 0 + 0 * 32, none⟩)) 24 rfl (by kernel_rfl) (Sl.run_op_index fD _ _ rfl g 0 _ _ rfl .i64 _ rfl 0 rfl lL _) ?_); try simp only [Act.put, List.setIfInBounds_toArray, List.set_cons_zero, List.set_cons_succ])
        | ((with_reducible refine at_slot 25 ?_); (refine arm_load (o := ⟨some 25, _, _, _, _, _⟩) rfl _ _ rfl g (0 + 0 * 32) rfl (u8s (digS x0)) (at_range O_6 HD0.out) (szH K0.out) ?_); try simp only [Act.put, List.setIfInBounds_toArray, List.set_cons_zero, List.set_cons_succ])
        | ((with_reducible refine arm_store (o := ⟨none, _, _, _, _, _⟩) rfl _ _ _ rfl R 0 rfl (u8s (digS x0)) rfl _ _ (R_6) (fitH K0.out) (u8s_one _) (szH K0.out) ?_); intro y8 hy8 oy8 sy8; try simp only [Act.put, List.setIfInBounds_toArray, List.set_cons_zero, List.set_cons_succ]))
      have rR8 : Row y8 R 29 (u8s (digS x0)) := hy8.congr (allH K0.out)
      have hb8 := bel_6.new oy8 (geR)
      exact bodyPost_ret (v := .agg (u8s (digS x0)).toArray) (result_row (p := 2) (ty := 29) (u := 29) (by kernel_rfl) _ _ R (u8s (digS x0)) rfl rR8 (szH K0.out)) rfl ⟨by first | rfl | rw [if_neg HC.out], hb8.below (fun k hk => hk.elim) (Nat.le_refl _)⟩
end Go.Proofs.YtnjmocobncncdaaDoor.So
