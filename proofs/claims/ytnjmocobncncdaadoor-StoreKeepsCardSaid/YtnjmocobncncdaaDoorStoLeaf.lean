/-
  The contracts of the store's New, Len, Pinned, Get, pin and Pin. Over this seat's translation.
-/
import Derived.Test.YtnjmocobncncdaaDoorStoRise
import Derived.Test.YtnjmocobncncdaaDoorMemAll
namespace Go.Proofs.YtnjmocobncncdaaDoor.So
open Go.ChangeShapes Go.WideShapes Go.ChangeAt Go.RowKit Go.Proofs.YtnjmocobncncdaaDoor.Mem Go.Proofs.YtnjmocobncncdaaDoor.Bt Go.Proofs.YtnjmocobncncdaaDoor.Km
open Go.Proofs.YtnjmocobncncdaaDoor.Ep (H32 zh zh_ok Has h_len szH zH fitH allH one_app num32)
open Go.Proofs.YtnjmocobncncdaaDoor.Sl (Kind At bk)
open Go.Proofs.YtnjmocobncncdaaDoor.Sa (Sta scs digS digS_ok sz_sta h_drw h_lngth)
open Go.Proofs.YtnjmocobncncdaaDoor.Od (Ky kcs keyN keyN_ok kcs_len kcs_one kcmp kval zk z_key sz_key fitK allK built_key compare_anyD)
set_option linter.unusedVariables false
set_option linter.unusedSimpArgs false

structure SNewPost (w : World) (room : Int) (e : Ending) (w' : World) : Prop where
  ex : (2 ≤ room ∧ room ≤ 100 ∧ ∃ S F, e = .returned (.tuple #[.pointer (some ⟨S, 0, none⟩), .int .i64 0]) ∧ PAt w' F S room.toNat none [] ∧ From F w.heap.size) ∨ (¬ (2 ≤ room ∧ room ≤ 100) ∧ e = .returned (.tuple #[.pointer none, .int .i64 1]))
  bel : Below w.heap.size w w'
set_option maxHeartbeats 4000000 in
set_option maxRecDepth 100000 in
theorem snew_any (room : Int) (w : World) :
    Calls Tryd.prog 6 #[.int .i64 room] w (SNewPost w room) := by
  by_cases h1 : room < 2
  · have d1 : decide (room < 2) = true := decide_eq_true h1
    have HN : Hid (¬ (2 ≤ room ∧ room ≤ 100)) := Lib.hid (by omega)
    clear h1
    go_enter Tryd.func6, Tryd.ntmps6
    go_wp2_with (first
      | ((with_reducible refine at_slot 5 ?_); (refine arm_want (.bool true) 5 rfl (by kernel_rfl) (cmp_lss _ _ _ _ rfl .i64 (room) (2) rfl rfl true (d1) _) ?_); try simp only [Act.put, List.setIfInBounds_toArray, List.set_cons_zero, List.set_cons_succ]))
    go_ret2
    exact ⟨.inr ⟨HN.out, rfl⟩, Below.refl _ _⟩
  · by_cases h2 : 100 < room
    · have d1 : decide (room < 2) = false := decide_eq_false h1
      have d2 : decide (100 < room) = true := decide_eq_true h2
      have HN : Hid (¬ (2 ≤ room ∧ room ≤ 100)) := Lib.hid (by omega)
      clear h1 h2
      go_enter Tryd.func6, Tryd.ntmps6
      go_wp2_with (first
        | ((with_reducible refine at_slot 5 ?_); (refine arm_want (.bool false) 5 rfl (by kernel_rfl) (cmp_lss _ _ _ _ rfl .i64 (room) (2) rfl rfl false (d1) _) ?_); try simp only [Act.put, List.setIfInBounds_toArray, List.set_cons_zero, List.set_cons_succ])
        | ((with_reducible refine at_slot 8 ?_); (refine arm_want (.bool true) 8 rfl (by kernel_rfl) (cmp_gtr _ _ _ _ rfl .i64 (room) (100) rfl rfl true (d2) _) ?_); try simp only [Act.put, List.setIfInBounds_toArray, List.set_cons_zero, List.set_cons_succ]))
      go_ret2
      exact ⟨.inr ⟨HN.out, rfl⟩, Below.refl _ _⟩
    · obtain ⟨r, rfl⟩ : ∃ r : Nat, room = (r : Int) := ⟨room.toNat, by omega⟩
      have d1 : decide ((r : Int) < 2) = false := decide_eq_false h1
      have d2 : decide (100 < (r : Int)) = false := decide_eq_false h2
      have HR1 : Hid (2 ≤ r ∧ r ≤ 100) := Lib.hid (by omega)
      have BC := Lib.hid built_own
      clear h1 h2
      go_enter Tryd.func6, Tryd.ntmps6
      go_wp2_with (first
        | ((with_reducible refine at_slot 5 ?_); (refine arm_want (.bool false) 5 rfl (by kernel_rfl) (cmp_lss _ _ _ _ rfl .i64 ((r : Int)) (2) rfl rfl false (d1) _) ?_); try simp only [Act.put, List.setIfInBounds_toArray, List.set_cons_zero, List.set_cons_succ])
        | ((with_reducible refine at_slot 8 ?_); (refine arm_want (.bool false) 8 rfl (by kernel_rfl) (cmp_gtr _ _ _ _ rfl .i64 ((r : Int)) (100) rfl rfl false (d2) _) ?_); try simp only [Act.put, List.setIfInBounds_toArray, List.set_cons_zero, List.set_cons_succ])
        | ((with_reducible refine at_slot 11 ?_); (refine arm_makeMapK (o := ⟨some 11, _, _, _, _, _⟩) rfl _ _ rfl rfl hashV ptrV hashOk ?_); intro mb v1 me hm nm; try simp only [Act.put, List.setIfInBounds_toArray, List.set_cons_zero, List.set_cons_succ])
        | ((with_reducible refine at_slot 12 ?_); (refine arm_build (o := ⟨some 12, _, _, _, _, _⟩) rfl _ _ rfl (pcs r mb none) (by simp only [List.map_toArray, List.map_cons, List.map_nil]; exact BC.out r mb) ?_); try simp only [Act.put, List.setIfInBounds_toArray, List.set_cons_zero, List.set_cons_succ])
        | ((with_reducible refine at_slot 13 ?_); (refine arm_box (o := ⟨some 13, _, _, _, _, _⟩) rfl _ _ rfl (pcs r mb none) rfl ?_); intro S v2 Se hv2 nv2; try simp only [Act.put, List.setIfInBounds_toArray, List.set_cons_zero, List.set_cons_succ]))
      go_ret2
      have hBl : w.heap.size ≤ S := by have := Se.out; have := nm.size; omega
      have hml : w.heap.size ≤ mb := by have := me.out; omega
      have hR1 := HR1.out
      have hb : Below w.heap.size w v2 := below_step nm.below nm.below.size nv2.below
      exact ⟨.inl ⟨by omega, by omega, S, fun k => k = S ∨ k = mb, rfl, ⟨⟨mb, [], ⟨by rw [Int.toNat_natCast]; exact hv2, hm.old nv2.below, fun p hp => (nomatch hp), fun p hp => (nomatch hp), fun p hp => (by cases hp), .inl rfl, .inr rfl, fun p hp => (nomatch hp), fun k hk => by rcases hk with rfl | rfl; exact hv2.lt; exact (hm.old nv2.below).lt⟩, List.Perm.refl _⟩, by rw [Int.toNat_natCast]; exact s_nil hR1.1⟩, fun k hk => by rcases hk with rfl | rfl <;> assumption⟩, hb⟩
set_option maxHeartbeats 4000000 in
set_option maxRecDepth 100000 in
theorem slen_any (F : Nat → Prop) (S r mb : Nat) (pin : Option (List Nat)) (E : Ents) (w : World) (hS : SAt w F S r mb pin E) :
    Calls Tryd.prog 14 #[.pointer (some ⟨S, 0, none⟩)] w fun e w' => e = .returned (.int .i64 (E.length : Int)) ∧ w = w' := by
  have hM := hS.map
  have HK : Hid ((E.map entD).length = E.length) := Lib.hid (List.length_map ..)
  have c1 := hS.row.cell (i := 1) rfl
  clear hS
  go_enter Tryd.func14, Tryd.ntmps14
  go_wp2_with ((with_reducible refine at_slot 7 ?_); (refine arm_lenK (o := ⟨some 7, _, _, _, _, _⟩) rfl _ _ rfl rfl hM und_map ?_); try simp only [Act.put, List.setIfInBounds_toArray, List.set_cons_zero, List.set_cons_succ])
  go_ret
  exact ⟨congrArg (fun n : Nat => Ending.returned (Value.int .i64 (n : Int))) HK.out, rfl⟩
set_option maxHeartbeats 4000000 in
set_option maxRecDepth 100000 in
theorem spinned_any (F : Nat → Prop) (S r mb : Nat) (pin : Option (List Nat)) (E : Ents) (w : World) (hS : SAt w F S r mb pin E) :
    Calls Tryd.prog 10 #[.pointer (some ⟨S, 0, none⟩)] w fun e w' => e = .returned (.tuple #[.agg (u8s (pin.getD zh)).toArray, .bool pin.isSome]) ∧ Below w.heap.size w w' := by
  have PO := Lib.hid (pin_ok' hS.pok)
  have hrow := hS.row
  have C34 : Hid (∀ w', Row w' S 67 (pcs r mb pin) → w'.cell? ⟨S, 34, none⟩ = some (.bool pin.isSome)) := Lib.hid fun w' h => h.cell (pcs_34 PO.out)
  have C2 : Hid (∀ w', Row w' S 67 (pcs r mb pin) → w'.rangeAt S 2 (u8s (pin.getD zh))) := Lib.hid fun w' h => pcs_2.range h
  generalize pin.getD zh = d at PO C2 ⊢
  generalize pin.isSome = s at C34 ⊢
  clear hS
  go_enter Tryd.func10, Tryd.ntmps10
  have bel0 : Chg (fun _ => False) w w := Chg.refl _ _
  go_wp2_with (first
    | ((with_reducible refine at_slot 2 ?_); (refine arm_alloc (o := ⟨some 2, _, _, _, _, _⟩) rfl _ rfl (u8s zh) zH ?_); intro R v1 Re hv1 nv1; try simp only [Act.put, List.setIfInBounds_toArray, List.set_cons_zero, List.set_cons_succ]))
  have hbv1 := nv1.below
  have rrv1 : Row v1 R 29 (u8s zh) := hv1
  have geR : w.heap.size ≤ R := by have := Re.out; have := bel0.size; omega
  have lRx : w.heap.size ≤ R := by have := Re.out; omega
  clear hv1 nv1 Re
  have S_2 : Row v1 S 67 (pcs r mb pin) := hrow.old hbv1
  have bel_2 : Chg (fun _ => False) w v1 := bel0.old hbv1
  clear hrow bel0 hbv1
  have nSR : S ≠ R := S_2.ne_type rrv1 (by decide)
  refine wp_region_held (S := fun w' => Row w' S 67 (pcs r mb pin) ∧ True) (by kernel_rfl) ?_
  change wpAnyH _ _ _ _ _ _ _ _ v1.drew
  have hd3 : Below v1.heap.size v1 v1.drew := (Below.refl _ _).drew
  have S_4 : Row v1.drew S 67 (pcs r mb pin) := S_2.old hd3
  have R_4 : Row v1.drew R 29 (u8s zh) := rrv1.old hd3
  have bel_4 : Chg (fun _ => False) w v1.drew := bel_2.old hd3
  clear S_2 rrv1 bel_2 hd3
  generalize v1.drew = yz3 at S_4 R_4 bel_4 ⊢
  refine h_take 0 (.pointer (some ⟨S, 0, none⟩)) rfl 4 rfl (by kernel_rfl) (by kernel_rfl) (by kernel_rfl) (by kernel_rfl) (fun _ _ _ h => h) (fun w' _ => by kernel_rfl) ⟨S_4, trivial⟩ ?_
  simp only [Act.put, List.setIfInBounds_toArray, List.set_cons_zero, List.set_cons_succ]
  refine h_take 1 (.pointer (some ⟨S, 0, none⟩)) rfl 5 rfl (by kernel_rfl) (by kernel_rfl) (by kernel_rfl) (by kernel_rfl) (fun _ _ _ h => h) (fun w' _ => by kernel_rfl) ⟨S_4, trivial⟩ ?_
  simp only [Act.put, List.setIfInBounds_toArray, List.set_cons_zero, List.set_cons_succ]
  refine h_take 2 (.pointer (some ⟨S, 2, none⟩)) rfl 6 rfl (by kernel_rfl) (by kernel_rfl) (by kernel_rfl) (by kernel_rfl) (fun _ _ _ h => h) (fun w' _ => by kernel_rfl) ⟨S_4, trivial⟩ ?_
  simp only [Act.put, List.setIfInBounds_toArray, List.set_cons_zero, List.set_cons_succ]
  refine h_take 3 (.agg (u8s d).toArray) rfl 7 rfl (by kernel_rfl) (by kernel_rfl) (by kernel_rfl) (by kernel_rfl) (fun _ _ _ h => h) (fun w' hw => run_op_load _ _ rfl S 2 rfl (u8s d) (C2.out _ hw.1) (szH PO.out)) ⟨S_4, trivial⟩ ?_
  simp only [Act.put, List.setIfInBounds_toArray, List.set_cons_zero, List.set_cons_succ]
  refine h_take 4 (.pointer (some ⟨S, 0, none⟩)) rfl 8 rfl (by kernel_rfl) (by kernel_rfl) (by kernel_rfl) (by kernel_rfl) (fun _ _ _ h => h) (fun w' _ => by kernel_rfl) ⟨S_4, trivial⟩ ?_
  simp only [Act.put, List.setIfInBounds_toArray, List.set_cons_zero, List.set_cons_succ]
  refine h_take 5 (.pointer (some ⟨S, 0, none⟩)) rfl 9 rfl (by kernel_rfl) (by kernel_rfl) (by kernel_rfl) (by kernel_rfl) (fun _ _ _ h => h) (fun w' _ => by kernel_rfl) ⟨S_4, trivial⟩ ?_
  simp only [Act.put, List.setIfInBounds_toArray, List.set_cons_zero, List.set_cons_succ]
  refine h_take 6 (.pointer (some ⟨S, 34, none⟩)) rfl 10 rfl (by kernel_rfl) (by kernel_rfl) (by kernel_rfl) (by kernel_rfl) (fun _ _ _ h => h) (fun w' _ => by kernel_rfl) ⟨S_4, trivial⟩ ?_
  simp only [Act.put, List.setIfInBounds_toArray, List.set_cons_zero, List.set_cons_succ]
  refine h_take 7 (.bool s) rfl 11 rfl (by kernel_rfl) (by kernel_rfl) (by kernel_rfl) (by kernel_rfl) (fun _ _ _ h => h) (fun w' hw => run_op_load1 _ _ rfl (.bool) (by kernel_rfl) rfl ⟨S, 34, none⟩ rfl (.bool s) (C34.out _ hw.1)) ⟨S_4, trivial⟩ ?_
  simp only [Act.put, List.setIfInBounds_toArray, List.set_cons_zero, List.set_cons_succ]
  refine h_one (i := 8) (by kernel_rfl) (o_skip rfl rfl (by kernel_rfl) (run_op_store _ _ _ rfl R (0) rfl (u8s d) rfl _ _ R_4 (fitH PO.out) (u8s_one _) (szH PO.out)) ?_)
  have rq := row_setRow R_4 (lay (u8s zh) (0) (u8s d))
  have oq := Only.setRow R yz3 (lay (u8s zh) (0) (u8s d)).toArray
  generalize yz3.setRow R (lay (u8s zh) (0) (u8s d)).toArray = y5 at rq oq ⊢
  have S_6 : Row y5 S 67 (pcs r mb pin) := S_4.only oq nSR
  have R_6 : Row y5 R 29 (u8s d) := rq.congr (allH PO.out)
  have bel_6 : Chg (fun _ => False) w y5 := bel_4.new oq (geR)
  clear S_4 R_4 bel_4 oq
  clear rq
  refine ⟨⟨S_6, trivial⟩, ?_⟩
  refine h_take 9 (.bool s) rfl 3 rfl (by kernel_rfl) (by kernel_rfl) (by kernel_rfl) (by kernel_rfl) (fun _ _ _ h => h) (fun w' _ => by kernel_rfl) ⟨S_6, trivial⟩ ?_
  simp only [Act.put, List.setIfInBounds_toArray, List.set_cons_zero, List.set_cons_succ]
  refine wpAnyH_done (by kernel_rfl) ?_ _
  go_wp2_with fail
  exact bodyPost_ret (result_row2 (p := 2) (u := 3) (ty := 29) (t := 29) (by kernel_rfl) _ _ R (u8s d) (.bool s) rfl rfl R_6 (szH PO.out)) rfl ⟨rfl, bel_6.below (fun k hk => hk.elim) (Nat.le_refl _)⟩
set_option maxHeartbeats 4000000 in
set_option maxRecDepth 100000 in
theorem sget_some (F : Nat → Prop) (S r mb : Nat) (pin : Option (List Nat)) (E : Ents) (x : Sta) (b : Nat) (w : World) (hS : SAt w F S r mb pin E) (hx : (x, b) ∈ E) :
    Calls Tryd.prog 11 #[.pointer (some ⟨S, 0, none⟩), .agg (u8s (digS x)).toArray] w fun e w' => e = .returned (.tuple #[.agg (scs x).toArray, .bool true]) ∧ Below w.heap.size w w' := by
  have HV : Hid ((if true = true then Value.tuple #[((Km.look (E.map entD) (digS x)).map ptrV).getD (.pointer none), .bool (Km.look (E.map entD) (digS x)).isSome] else ((Km.look (E.map entD) (digS x)).map ptrV).getD (.pointer none)) = .tuple #[.pointer (some ⟨b, 0, none⟩), .bool true]) := Lib.hid (by rw [look_ent (ent_nodup hS) hx]; rfl)
  have hrow := hS.row
  have hmap := hS.map
  have hst : Row w b 41 (scs x) := hS.st _ hx
  have OK := Lib.hid (hS.ok _ hx)
  have KH := Lib.hid (digS_ok x)
  clear hS hx
  have HH : Hid (hashOk (digS x)) := Lib.hid KH.out.len
  go_enter Tryd.func11, Tryd.ntmps11
  have bel0 : Chg (fun _ => False) w w := Chg.refl _ _
  go_wp2_with (first
    | ((with_reducible refine at_slot 3 ?_); (refine arm_box (o := ⟨some 3, _, _, _, _, _⟩) rfl _ _ rfl (u8s (digS x)) rfl ?_); intro X v1 Xe hv1 nv1; try simp only [Act.put, List.setIfInBounds_toArray, List.set_cons_zero, List.set_cons_succ])
    | ((with_reducible refine at_slot 4 ?_); (refine arm_alloc (o := ⟨some 4, _, _, _, _, _⟩) rfl _ rfl (scs Sa.zs) Sa.z_sta ?_); intro R v2 Re hv2 nv2; try simp only [Act.put, List.setIfInBounds_toArray, List.set_cons_zero, List.set_cons_succ]))
  have hbv1 := nv1.below
  have rrv1 : Row v1 X 29 (u8s (digS x)) := hv1
  have hbv2 := nv2.below
  have rrv2 : Row v2 R 41 (scs Sa.zs) := hv2
  have geX : w.heap.size ≤ X := by have := Xe.out; have := bel0.size; omega
  have lXx : w.heap.size ≤ X := by have := Xe.out; omega
  clear hv1 nv1 Xe
  have S_3 : Row v1 S 67 (pcs r mb pin) := hrow.old hbv1
  have M_3 : PMap v1 mb E := hmap.old hbv1
  have b_3 : Row v1 b 41 (scs x) := hst.old hbv1
  have bel_3 : Chg (fun _ => False) w v1 := bel0.old hbv1
  clear hrow hmap hst bel0 hbv1
  have geR : w.heap.size ≤ R := by have := Re.out; have := bel_3.size; omega
  have ltXR : X < R := by have := Re.out; have := rrv1.lt; omega
  have lRx : v1.heap.size ≤ R := by have := Re.out; omega
  clear hv2 nv2 Re
  have S_4 : Row v2 S 67 (pcs r mb pin) := S_3.old hbv2
  have M_4 : PMap v2 mb E := M_3.old hbv2
  have b_4 : Row v2 b 41 (scs x) := b_3.old hbv2
  have X_4 : Row v2 X 29 (u8s (digS x)) := rrv1.old hbv2
  have bel_4 : Chg (fun _ => False) w v2 := bel_3.old hbv2
  clear S_3 M_3 b_3 rrv1 bel_3 hbv2
  refine wp_region_held (S := fun w' => Row w' S 67 (pcs r mb pin) ∧ PMap w' mb E ∧ Row w' X 29 (u8s (digS x)) ∧ True) (by kernel_rfl) ?_
  change wpAnyH _ _ _ _ _ _ _ _ v2.drew
  have hd5 : Below v2.heap.size v2 v2.drew := (Below.refl _ _).drew
  have S_6 : Row v2.drew S 67 (pcs r mb pin) := S_4.old hd5
  have M_6 : PMap v2.drew mb E := M_4.old hd5
  have b_6 : Row v2.drew b 41 (scs x) := b_4.old hd5
  have X_6 : Row v2.drew X 29 (u8s (digS x)) := X_4.old hd5
  have R_6 : Row v2.drew R 41 (scs Sa.zs) := rrv2.old hd5
  have bel_6 : Chg (fun _ => False) w v2.drew := bel_4.old hd5
  clear S_4 M_4 b_4 X_4 rrv2 bel_4 hd5
  generalize v2.drew = yz5 at S_6 M_6 b_6 X_6 R_6 bel_6 ⊢
  refine h_take 0 (.pointer (some ⟨S, 0, none⟩)) rfl 9 rfl (by kernel_rfl) (by kernel_rfl) (by kernel_rfl) (by kernel_rfl) (fun _ _ _ h => h) (fun w' _ => by kernel_rfl) ⟨S_6, M_6, X_6, trivial⟩ ?_
  simp only [Act.put, List.setIfInBounds_toArray, List.set_cons_zero, List.set_cons_succ]
  refine h_take 1 (.pointer (some ⟨S, 0, none⟩)) rfl 10 rfl (by kernel_rfl) (by kernel_rfl) (by kernel_rfl) (by kernel_rfl) (fun _ _ _ h => h) (fun w' _ => by kernel_rfl) ⟨S_6, M_6, X_6, trivial⟩ ?_
  simp only [Act.put, List.setIfInBounds_toArray, List.set_cons_zero, List.set_cons_succ]
  refine h_take 2 (.pointer (some ⟨S, 1, none⟩)) rfl 11 rfl (by kernel_rfl) (by kernel_rfl) (by kernel_rfl) (by kernel_rfl) (fun _ _ _ h => h) (fun w' _ => by kernel_rfl) ⟨S_6, M_6, X_6, trivial⟩ ?_
  simp only [Act.put, List.setIfInBounds_toArray, List.set_cons_zero, List.set_cons_succ]
  refine h_take 3 (.map (some mb)) rfl 12 rfl (by kernel_rfl) (by kernel_rfl) (by kernel_rfl) (by kernel_rfl) (fun _ _ _ h => h) (fun w' hw => run_op_load1 _ _ rfl (.map 29 71) und_map rfl ⟨S, 1, none⟩ rfl (.map (some mb)) (hw.1.cell (i := 1) rfl)) ⟨S_6, M_6, X_6, trivial⟩ ?_
  simp only [Act.put, List.setIfInBounds_toArray, List.set_cons_zero, List.set_cons_succ]
  refine h_take 4 (.agg (u8s (digS x)).toArray) rfl 13 rfl (by kernel_rfl) (by kernel_rfl) (by kernel_rfl) (by kernel_rfl) (fun _ _ _ h => h) (fun w' hw => run_op_load _ _ rfl X (0) rfl (u8s (digS x)) (((Has.refl _)).range hw.2.2.1) ((szH KH.out))) ⟨S_6, M_6, X_6, trivial⟩ ?_
  simp only [Act.put, List.setIfInBounds_toArray, List.set_cons_zero, List.set_cons_succ]
  refine h_take 5 (.tuple #[.pointer (some ⟨b, 0, none⟩), .bool true]) rfl 14 rfl (by kernel_rfl) (by kernel_rfl) (by kernel_rfl) (by kernel_rfl) (fun _ _ _ h => h) (fun w' hw => by rw [← HV.out]; exact run_op_lookupK _ _ _ true rfl rfl (digS x) HH.out rfl hw.2.1 hash_keys und_map _ (zero_ptr _)) ⟨S_6, M_6, X_6, trivial⟩ ?_
  simp only [Act.put, List.setIfInBounds_toArray, List.set_cons_zero, List.set_cons_succ]
  refine h_take 6 (.tuple #[.pointer (some ⟨b, 0, none⟩), .bool true]) rfl 8 rfl (by kernel_rfl) (by kernel_rfl) (by kernel_rfl) (by kernel_rfl) (fun _ _ _ h => h) (fun w' _ => by kernel_rfl) ⟨S_6, M_6, X_6, trivial⟩ ?_
  simp only [Act.put, List.setIfInBounds_toArray, List.set_cons_zero, List.set_cons_succ]
  refine h_take 7 (.pointer (some ⟨b, 0, none⟩)) rfl 15 rfl (by kernel_rfl) (by kernel_rfl) (by kernel_rfl) (by kernel_rfl) (fun _ _ _ h => h) (fun w' _ => by kernel_rfl) ⟨S_6, M_6, X_6, trivial⟩ ?_
  simp only [Act.put, List.setIfInBounds_toArray, List.set_cons_zero, List.set_cons_succ]
  refine h_take 8 (.bool true) rfl 16 rfl (by kernel_rfl) (by kernel_rfl) (by kernel_rfl) (by kernel_rfl) (fun _ _ _ h => h) (fun w' _ => by kernel_rfl) ⟨S_6, M_6, X_6, trivial⟩ ?_
  simp only [Act.put, List.setIfInBounds_toArray, List.set_cons_zero, List.set_cons_succ]
  refine h_take 9 (.pointer (some ⟨b, 0, none⟩)) rfl 6 rfl (by kernel_rfl) (by kernel_rfl) (by kernel_rfl) (by kernel_rfl) (fun _ _ _ h => h) (fun w' _ => by kernel_rfl) ⟨S_6, M_6, X_6, trivial⟩ ?_
  simp only [Act.put, List.setIfInBounds_toArray, List.set_cons_zero, List.set_cons_succ]
  refine h_take 10 (.bool true) rfl 7 rfl (by kernel_rfl) (by kernel_rfl) (by kernel_rfl) (by kernel_rfl) (fun _ _ _ h => h) (fun w' _ => by kernel_rfl) ⟨S_6, M_6, X_6, trivial⟩ ?_
  simp only [Act.put, List.setIfInBounds_toArray, List.set_cons_zero, List.set_cons_succ]
  refine wpAnyH_done (by kernel_rfl) ?_ _
  go_wp2_with (first
    | ((with_reducible refine at_slot 20 ?_); (refine arm_load (o := ⟨some 20, _, _, _, _, _⟩) rfl _ _ rfl b 0 rfl (scs x) ((Has.refl _).range b_6) (sz_sta OK.out) ?_); try simp only [Act.put, List.setIfInBounds_toArray, List.set_cons_zero, List.set_cons_succ])
    | ((with_reducible refine arm_store (o := ⟨none, _, _, _, _, _⟩) rfl _ _ _ rfl R 0 rfl (scs x) rfl _ _ (R_6) (Sa.fitS OK.out) (Sa.scs_one _) (sz_sta OK.out) ?_); intro y8 hy8 oy8 sy8; try simp only [Act.put, List.setIfInBounds_toArray, List.set_cons_zero, List.set_cons_succ]))
  have rR8 : Row y8 R 41 (scs x) := hy8.congr (Sa.allS OK.out)
  have hb8 := bel_6.new oy8 geR
  exact bodyPost_ret (result_row2 (p := 4) (u := 5) (ty := 41) (t := 41) (by kernel_rfl) _ _ R (scs x) (.bool true) rfl rfl rR8 (sz_sta OK.out)) rfl ⟨rfl, hb8.below (fun k hk => hk.elim) (Nat.le_refl _)⟩
set_option maxHeartbeats 4000000 in
set_option maxRecDepth 100000 in
theorem sget_none (F : Nat → Prop) (S r mb : Nat) (pin : Option (List Nat)) (E : Ents) (h : List Nat) (hh : H32 h) (w : World) (hS : SAt w F S r mb pin E) (hn : ∀ p ∈ E, digS p.1 ≠ h) :
    Calls Tryd.prog 11 #[.pointer (some ⟨S, 0, none⟩), .agg (u8s (h)).toArray] w fun e w' => e = .returned (.tuple #[.agg (scs Sa.zs).toArray, .bool false]) ∧ Below w.heap.size w w' := by
  have HV : Hid ((if true = true then Value.tuple #[((Km.look (E.map entD) (h)).map ptrV).getD (.pointer none), .bool (Km.look (E.map entD) (h)).isSome] else ((Km.look (E.map entD) (h)).map ptrV).getD (.pointer none)) = .tuple #[.pointer none, .bool false]) := Lib.hid (by rw [look_no hn]; rfl)
  have hrow := hS.row
  have hmap := hS.map
  have OK := Lib.hid Sa.zs_ok
  have KH := Lib.hid hh
  clear hS hn hh
  have HH : Hid (hashOk (h)) := Lib.hid KH.out.len
  go_enter Tryd.func11, Tryd.ntmps11
  have bel0 : Chg (fun _ => False) w w := Chg.refl _ _
  go_wp2_with (first
    | ((with_reducible refine at_slot 3 ?_); (refine arm_box (o := ⟨some 3, _, _, _, _, _⟩) rfl _ _ rfl (u8s (h)) rfl ?_); intro X v1 Xe hv1 nv1; try simp only [Act.put, List.setIfInBounds_toArray, List.set_cons_zero, List.set_cons_succ])
    | ((with_reducible refine at_slot 4 ?_); (refine arm_alloc (o := ⟨some 4, _, _, _, _, _⟩) rfl _ rfl (scs Sa.zs) Sa.z_sta ?_); intro R v2 Re hv2 nv2; try simp only [Act.put, List.setIfInBounds_toArray, List.set_cons_zero, List.set_cons_succ]))
  have hbv1 := nv1.below
  have rrv1 : Row v1 X 29 (u8s (h)) := hv1
  have hbv2 := nv2.below
  have rrv2 : Row v2 R 41 (scs Sa.zs) := hv2
  have geX : w.heap.size ≤ X := by have := Xe.out; have := bel0.size; omega
  have lXx : w.heap.size ≤ X := by have := Xe.out; omega
  clear hv1 nv1 Xe
  have S_3 : Row v1 S 67 (pcs r mb pin) := hrow.old hbv1
  have M_3 : PMap v1 mb E := hmap.old hbv1
  have bel_3 : Chg (fun _ => False) w v1 := bel0.old hbv1
  clear hrow hmap bel0 hbv1
  have geR : w.heap.size ≤ R := by have := Re.out; have := bel_3.size; omega
  have ltXR : X < R := by have := Re.out; have := rrv1.lt; omega
  have lRx : v1.heap.size ≤ R := by have := Re.out; omega
  clear hv2 nv2 Re
  have S_4 : Row v2 S 67 (pcs r mb pin) := S_3.old hbv2
  have M_4 : PMap v2 mb E := M_3.old hbv2
  have X_4 : Row v2 X 29 (u8s (h)) := rrv1.old hbv2
  have bel_4 : Chg (fun _ => False) w v2 := bel_3.old hbv2
  clear S_3 M_3 rrv1 bel_3 hbv2
  refine wp_region_held (S := fun w' => Row w' S 67 (pcs r mb pin) ∧ PMap w' mb E ∧ Row w' X 29 (u8s (h)) ∧ True) (by kernel_rfl) ?_
  change wpAnyH _ _ _ _ _ _ _ _ v2.drew
  have hd5 : Below v2.heap.size v2 v2.drew := (Below.refl _ _).drew
  have S_6 : Row v2.drew S 67 (pcs r mb pin) := S_4.old hd5
  have M_6 : PMap v2.drew mb E := M_4.old hd5
  have X_6 : Row v2.drew X 29 (u8s (h)) := X_4.old hd5
  have R_6 : Row v2.drew R 41 (scs Sa.zs) := rrv2.old hd5
  have bel_6 : Chg (fun _ => False) w v2.drew := bel_4.old hd5
  clear S_4 M_4 X_4 rrv2 bel_4 hd5
  generalize v2.drew = yz5 at S_6 M_6 X_6 R_6 bel_6 ⊢
  refine h_take 0 (.pointer (some ⟨S, 0, none⟩)) rfl 9 rfl (by kernel_rfl) (by kernel_rfl) (by kernel_rfl) (by kernel_rfl) (fun _ _ _ h => h) (fun w' _ => by kernel_rfl) ⟨S_6, M_6, X_6, trivial⟩ ?_
  simp only [Act.put, List.setIfInBounds_toArray, List.set_cons_zero, List.set_cons_succ]
  refine h_take 1 (.pointer (some ⟨S, 0, none⟩)) rfl 10 rfl (by kernel_rfl) (by kernel_rfl) (by kernel_rfl) (by kernel_rfl) (fun _ _ _ h => h) (fun w' _ => by kernel_rfl) ⟨S_6, M_6, X_6, trivial⟩ ?_
  simp only [Act.put, List.setIfInBounds_toArray, List.set_cons_zero, List.set_cons_succ]
  refine h_take 2 (.pointer (some ⟨S, 1, none⟩)) rfl 11 rfl (by kernel_rfl) (by kernel_rfl) (by kernel_rfl) (by kernel_rfl) (fun _ _ _ h => h) (fun w' _ => by kernel_rfl) ⟨S_6, M_6, X_6, trivial⟩ ?_
  simp only [Act.put, List.setIfInBounds_toArray, List.set_cons_zero, List.set_cons_succ]
  refine h_take 3 (.map (some mb)) rfl 12 rfl (by kernel_rfl) (by kernel_rfl) (by kernel_rfl) (by kernel_rfl) (fun _ _ _ h => h) (fun w' hw => run_op_load1 _ _ rfl (.map 29 71) und_map rfl ⟨S, 1, none⟩ rfl (.map (some mb)) (hw.1.cell (i := 1) rfl)) ⟨S_6, M_6, X_6, trivial⟩ ?_
  simp only [Act.put, List.setIfInBounds_toArray, List.set_cons_zero, List.set_cons_succ]
  refine h_take 4 (.agg (u8s (h)).toArray) rfl 13 rfl (by kernel_rfl) (by kernel_rfl) (by kernel_rfl) (by kernel_rfl) (fun _ _ _ h => h) (fun w' hw => run_op_load _ _ rfl X (0) rfl (u8s (h)) (((Has.refl _)).range hw.2.2.1) ((szH KH.out))) ⟨S_6, M_6, X_6, trivial⟩ ?_
  simp only [Act.put, List.setIfInBounds_toArray, List.set_cons_zero, List.set_cons_succ]
  refine h_take 5 (.tuple #[.pointer none, .bool false]) rfl 14 rfl (by kernel_rfl) (by kernel_rfl) (by kernel_rfl) (by kernel_rfl) (fun _ _ _ h => h) (fun w' hw => by rw [← HV.out]; exact run_op_lookupK _ _ _ true rfl rfl (h) HH.out rfl hw.2.1 hash_keys und_map _ (zero_ptr _)) ⟨S_6, M_6, X_6, trivial⟩ ?_
  simp only [Act.put, List.setIfInBounds_toArray, List.set_cons_zero, List.set_cons_succ]
  refine h_take 6 (.tuple #[.pointer none, .bool false]) rfl 8 rfl (by kernel_rfl) (by kernel_rfl) (by kernel_rfl) (by kernel_rfl) (fun _ _ _ h => h) (fun w' _ => by kernel_rfl) ⟨S_6, M_6, X_6, trivial⟩ ?_
  simp only [Act.put, List.setIfInBounds_toArray, List.set_cons_zero, List.set_cons_succ]
  refine h_take 7 (.pointer none) rfl 15 rfl (by kernel_rfl) (by kernel_rfl) (by kernel_rfl) (by kernel_rfl) (fun _ _ _ h => h) (fun w' _ => by kernel_rfl) ⟨S_6, M_6, X_6, trivial⟩ ?_
  simp only [Act.put, List.setIfInBounds_toArray, List.set_cons_zero, List.set_cons_succ]
  refine h_take 8 (.bool false) rfl 16 rfl (by kernel_rfl) (by kernel_rfl) (by kernel_rfl) (by kernel_rfl) (fun _ _ _ h => h) (fun w' _ => by kernel_rfl) ⟨S_6, M_6, X_6, trivial⟩ ?_
  simp only [Act.put, List.setIfInBounds_toArray, List.set_cons_zero, List.set_cons_succ]
  refine h_take 9 (.pointer none) rfl 6 rfl (by kernel_rfl) (by kernel_rfl) (by kernel_rfl) (by kernel_rfl) (fun _ _ _ h => h) (fun w' _ => by kernel_rfl) ⟨S_6, M_6, X_6, trivial⟩ ?_
  simp only [Act.put, List.setIfInBounds_toArray, List.set_cons_zero, List.set_cons_succ]
  refine h_take 10 (.bool false) rfl 7 rfl (by kernel_rfl) (by kernel_rfl) (by kernel_rfl) (by kernel_rfl) (fun _ _ _ h => h) (fun w' _ => by kernel_rfl) ⟨S_6, M_6, X_6, trivial⟩ ?_
  simp only [Act.put, List.setIfInBounds_toArray, List.set_cons_zero, List.set_cons_succ]
  refine wpAnyH_done (by kernel_rfl) ?_ _
  go_wp2_with (first
    | ((with_reducible refine at_slot 21 ?_); (refine arm_build (o := ⟨some 21, _, _, _, _, _⟩) rfl _ _ rfl (scs Sa.zs) (by kernel_rfl) ?_); try simp only [Act.put, List.setIfInBounds_toArray, List.set_cons_zero, List.set_cons_succ])
    | ((with_reducible refine arm_store (o := ⟨none, _, _, _, _, _⟩) rfl _ _ _ rfl R 0 rfl (scs Sa.zs) rfl _ _ (R_6) (Sa.fitS OK.out) (Sa.scs_one _) (sz_sta OK.out) ?_); intro y8 hy8 oy8 sy8; try simp only [Act.put, List.setIfInBounds_toArray, List.set_cons_zero, List.set_cons_succ]))
  have rR8 : Row y8 R 41 (scs Sa.zs) := hy8.congr (Sa.allS OK.out)
  have hb8 := bel_6.new oy8 geR
  exact bodyPost_ret (result_row2 (p := 4) (u := 5) (ty := 41) (t := 41) (by kernel_rfl) _ _ R (scs Sa.zs) (.bool false) rfl rfl rR8 (sz_sta OK.out)) rfl ⟨rfl, hb8.below (fun k hk => hk.elim) (Nat.le_refl _)⟩
theorem lay_pin {r mb : Nat} {pin : Option (List Nat)} {h : List Nat} (hp : H32 (pin.getD zh)) (hh : H32 h) : (lay (pcs r mb pin) 2 (u8s h)).set 34 (.bool true) = pcs r mb (some h) := by
  have e : lay (pcs r mb pin) 2 (u8s h) = .int .i64 (r : Int) :: .map (some mb) :: (u8s h ++ [.bool pin.isSome]) := by
    unfold lay pcs
    rw [h_len hh]
    simp only [List.append_assoc, List.cons_append, List.nil_append, List.take_succ_cons, List.take_zero, List.drop_succ_cons, Nat.reduceAdd]
    rw [List.drop_left' (h_len hp)]
  rw [e, List.set_cons_succ, List.set_cons_succ, List.set_append_right _ _ (by rw [h_len hh]; exact Nat.le_refl _), h_len hh]
  rfl
theorem lay_pin_len {r mb : Nat} {pin : Option (List Nat)} {h : List Nat} (hp : H32 (pin.getD zh)) (hh : H32 h) : 34 < (lay (pcs r mb pin) 2 (u8s h)).length := by
  have := congrArg List.length (lay_pin (r := r) (mb := mb) hp hh)
  rw [List.length_set] at this
  rw [this]
  unfold pcs
  rw [List.length_append, List.length_append, h_len (show H32 ((some h).getD zh) from hh)]
  exact Nat.lt_succ_self 34
theorem fit_pin {r mb : Nat} {pin : Option (List Nat)} {h : List Nat} (hp : H32 (pin.getD zh)) (hh : H32 h) : 2 + (u8s h).length ≤ (pcs r mb pin).length := by
  unfold pcs
  rw [List.length_append, List.length_append, h_len hp, h_len hh]
  exact Nat.le_succ 34
structure PinInPost (w : World) (F : Nat → Prop) (S r mb : Nat) (h : List Nat) (E : Ents) (e : Ending) (w' : World) : Prop where
  ret : e = .returned (.tuple #[])
  at_ : SAt w' F S r mb (some h) E
  chg : Chg F w w'
set_option maxHeartbeats 4000000 in
set_option maxRecDepth 100000 in
theorem spinIn_any (F : Nat → Prop) (S r mb : Nat) (pin : Option (List Nat)) (E : Ents) (h : List Nat) (w : World) (hS : SAt w F S r mb pin E) (hh : H32 h) :
    Calls Tryd.prog 22 #[.pointer (some ⟨S, 0, none⟩), .agg (u8s h).toArray] w (PinInPost w F S r mb h E) := by
  have KH := Lib.hid hh
  have PO := Lib.hid (pin_ok' hS.pok)
  have HS := Lib.hid hS
  have hrow := hS.row
  clear hS hh
  go_enter Tryd.func22, Tryd.ntmps22
  go_wp2_with (first
    | ((with_reducible refine at_slot 3 ?_); (refine arm_box (o := ⟨some 3, _, _, _, _, _⟩) rfl _ _ rfl (u8s h) rfl ?_); intro X v1 Xe hX nX; try simp only [Act.put, List.setIfInBounds_toArray, List.set_cons_zero, List.set_cons_succ]; refine fpause ?_; try simp only [Act.put, List.setIfInBounds_toArray, List.set_cons_zero, List.set_cons_succ]))
  have hrow1 : Row v1 S 67 (pcs r mb pin) := hrow.old nX.below
  refine fgo ?_
  go_wp2_with (first
    | ((with_reducible refine at_slot 6 ?_); (refine arm_load (o := ⟨some 6, _, _, _, _, _⟩) rfl _ _ rfl X 0 rfl (u8s h) ((Has.refl _).range hX) (szH KH.out) ?_); try simp only [Act.put, List.setIfInBounds_toArray, List.set_cons_zero, List.set_cons_succ])
    | ((with_reducible refine arm_store (o := ⟨none, .store 29 _ _, _, _, _, _⟩) rfl _ _ _ rfl S 2 rfl (u8s h) rfl _ _ (hrow1) (fit_pin PO.out KH.out) (u8s_one _) (szH KH.out) ?_); intro y2 hy2 oy2 sy2; try simp only [Act.put, List.setIfInBounds_toArray, List.set_cons_zero, List.set_cons_succ])
    | ((with_reducible refine arm_storeV (o := ⟨none, .store 4 _ _, _, _, _, _⟩) rfl _ _ _ rfl S (34) rfl (.bool true) rfl rfl (by kernel_rfl) _ _ (hy2) (lay_pin_len PO.out KH.out) ?_); intro y3 hy3 oy3 sy3; try simp only [Act.put, List.setIfInBounds_toArray, List.set_cons_zero, List.set_cons_succ]))
  have hr3 : Row y3 S 67 (pcs r mb (some h)) := hy3.congr (lay_pin PO.out KH.out)
  have hA := HS.out.old nX.below
  have hc2 : Chg F v1 y2 := Chg.of_only oy2 hA.fS
  have hc3 : Chg F y2 y3 := Chg.of_only oy3 hA.fS
  have hck : ∀ k, k < v1.heap.size → k ≠ S → y3.heap[k]? = v1.heap[k]? := fun k hk hn => (oy3.block k (Nat.lt_of_lt_of_le hk oy2.size) hn).trans (oy2.block k hk hn)
  have hA3 : SAt y3 F S r mb (some h) E := ⟨hr3, hA.map.of_block (hck _ hA.map.lt (fun e => S_ne_m hA e.symm)), fun p hp => (hA.st p hp).of_block (hck _ (hA.st p hp).lt (st_ne_S hA hp)), hA.ok, fun p hp => by cases hp; exact KH.out, hA.fS, hA.fm, hA.fE, hA.lies.mono (Nat.le_trans oy2.size oy3.size)⟩
  go_end0
  exact ⟨rfl, hA3, ((Chg.of_below F nX.below).step hc2).step hc3⟩
structure SPinPost (w : World) (F : Nat → Prop) (S r mb : Nat) (pin : Option (List Nat)) (E : Ents) (v : Bool) (e : Ending) (w' : World) : Prop where
  ret : e = .returned (.bool v)
  at_ : SAt w' F S r mb pin E
  chg : Chg F w w'
set_option maxHeartbeats 4000000 in
set_option maxRecDepth 100000 in
theorem spin_some (F : Nat → Prop) (S r mb : Nat) (pin : Option (List Nat)) (E : Ents) (x : Sta) (b : Nat) (w : World) (hS : SAt w F S r mb pin E) (hx : (x, b) ∈ E) :
    Calls Tryd.prog 8 #[.pointer (some ⟨S, 0, none⟩), .agg (u8s (digS x)).toArray] w (SPinPost w F S r mb (some (digS x)) E true) := by
  have HV : Hid ((if true = true then Value.tuple #[((Km.look (E.map entD) (digS x)).map ptrV).getD (.pointer none), .bool (Km.look (E.map entD) (digS x)).isSome] else ((Km.look (E.map entD) (digS x)).map ptrV).getD (.pointer none)) = .tuple #[.pointer (some ⟨b, 0, none⟩), .bool true]) := Lib.hid (by rw [look_ent (ent_nodup hS) hx]; rfl)
  have hrow := hS.row
  have hmap := hS.map
  have KH := Lib.hid (digS_ok x)
  clear hx
  have HH : Hid (hashOk (digS x)) := Lib.hid KH.out.len
  have CP := Lib.hid (fun w0 a => spinIn_any F S r mb pin E (digS x) w0 a KH.out)
  go_enter Tryd.func8, Tryd.ntmps8
  have bel0 : Chg (fun _ => False) w w := Chg.refl _ _
  go_wp2_with (first
    | ((with_reducible refine at_slot 3 ?_); (refine arm_box (o := ⟨some 3, _, _, _, _, _⟩) rfl _ _ rfl (u8s (digS x)) rfl ?_); intro X v1 Xe hv1 nv1; try simp only [Act.put, List.setIfInBounds_toArray, List.set_cons_zero, List.set_cons_succ]))
  have hbv1 := nv1.below
  have rrv1 : Row v1 X 29 (u8s (digS x)) := hv1
  have geX : w.heap.size ≤ X := by have := Xe.out; have := bel0.size; omega
  have lXx : w.heap.size ≤ X := by have := Xe.out; omega
  clear hv1 nv1 Xe
  have S_2 : Row v1 S 67 (pcs r mb pin) := hrow.old hbv1
  have M_2 : PMap v1 mb E := hmap.old hbv1
  have A_2 : SAt v1 F S r mb pin E := hS.old hbv1
  have bel_2 : Chg (fun _ => False) w v1 := bel0.old hbv1
  clear hrow hmap hS bel0 hbv1
  refine wp_region_held (S := fun w' => Row w' S 67 (pcs r mb pin) ∧ PMap w' mb E ∧ Row w' X 29 (u8s (digS x)) ∧ True) (by kernel_rfl) ?_
  change wpAnyH _ _ _ _ _ _ _ _ v1.drew
  have hd3 : Below v1.heap.size v1 v1.drew := (Below.refl _ _).drew
  have S_4 : Row v1.drew S 67 (pcs r mb pin) := S_2.old hd3
  have M_4 : PMap v1.drew mb E := M_2.old hd3
  have A_4 : SAt v1.drew F S r mb pin E := A_2.old hd3
  have X_4 : Row v1.drew X 29 (u8s (digS x)) := rrv1.old hd3
  have bel_4 : Chg (fun _ => False) w v1.drew := bel_2.old hd3
  clear S_2 M_2 A_2 rrv1 bel_2 hd3
  generalize v1.drew = yz3 at S_4 M_4 A_4 X_4 bel_4 ⊢
  refine h_take 0 (.pointer (some ⟨S, 0, none⟩)) rfl 8 rfl (by kernel_rfl) (by kernel_rfl) (by kernel_rfl) (by kernel_rfl) (fun _ _ _ h => h) (fun w' _ => by kernel_rfl) ⟨S_4, M_4, X_4, trivial⟩ ?_
  simp only [Act.put, List.setIfInBounds_toArray, List.set_cons_zero, List.set_cons_succ]
  refine h_take 1 (.pointer (some ⟨S, 0, none⟩)) rfl 9 rfl (by kernel_rfl) (by kernel_rfl) (by kernel_rfl) (by kernel_rfl) (fun _ _ _ h => h) (fun w' _ => by kernel_rfl) ⟨S_4, M_4, X_4, trivial⟩ ?_
  simp only [Act.put, List.setIfInBounds_toArray, List.set_cons_zero, List.set_cons_succ]
  refine h_take 2 (.pointer (some ⟨S, 1, none⟩)) rfl 10 rfl (by kernel_rfl) (by kernel_rfl) (by kernel_rfl) (by kernel_rfl) (fun _ _ _ h => h) (fun w' _ => by kernel_rfl) ⟨S_4, M_4, X_4, trivial⟩ ?_
  simp only [Act.put, List.setIfInBounds_toArray, List.set_cons_zero, List.set_cons_succ]
  refine h_take 3 (.map (some mb)) rfl 11 rfl (by kernel_rfl) (by kernel_rfl) (by kernel_rfl) (by kernel_rfl) (fun _ _ _ h => h) (fun w' hw => run_op_load1 _ _ rfl (.map 29 71) und_map rfl ⟨S, 1, none⟩ rfl (.map (some mb)) (hw.1.cell (i := 1) rfl)) ⟨S_4, M_4, X_4, trivial⟩ ?_
  simp only [Act.put, List.setIfInBounds_toArray, List.set_cons_zero, List.set_cons_succ]
  refine h_take 4 (.agg (u8s (digS x)).toArray) rfl 12 rfl (by kernel_rfl) (by kernel_rfl) (by kernel_rfl) (by kernel_rfl) (fun _ _ _ h => h) (fun w' hw => run_op_load _ _ rfl X (0) rfl (u8s (digS x)) (((Has.refl _)).range hw.2.2.1) ((szH KH.out))) ⟨S_4, M_4, X_4, trivial⟩ ?_
  simp only [Act.put, List.setIfInBounds_toArray, List.set_cons_zero, List.set_cons_succ]
  refine h_take 5 (.tuple #[.pointer (some ⟨b, 0, none⟩), .bool true]) rfl 13 rfl (by kernel_rfl) (by kernel_rfl) (by kernel_rfl) (by kernel_rfl) (fun _ _ _ h => h) (fun w' hw => by rw [← HV.out]; exact run_op_lookupK _ _ _ true rfl rfl (digS x) HH.out rfl hw.2.1 hash_keys und_map _ (zero_ptr _)) ⟨S_4, M_4, X_4, trivial⟩ ?_
  simp only [Act.put, List.setIfInBounds_toArray, List.set_cons_zero, List.set_cons_succ]
  refine h_take 6 (.tuple #[.pointer (some ⟨b, 0, none⟩), .bool true]) rfl 7 rfl (by kernel_rfl) (by kernel_rfl) (by kernel_rfl) (by kernel_rfl) (fun _ _ _ h => h) (fun w' _ => by kernel_rfl) ⟨S_4, M_4, X_4, trivial⟩ ?_
  simp only [Act.put, List.setIfInBounds_toArray, List.set_cons_zero, List.set_cons_succ]
  refine h_take 7 (.pointer (some ⟨b, 0, none⟩)) rfl 14 rfl (by kernel_rfl) (by kernel_rfl) (by kernel_rfl) (by kernel_rfl) (fun _ _ _ h => h) (fun w' _ => by kernel_rfl) ⟨S_4, M_4, X_4, trivial⟩ ?_
  simp only [Act.put, List.setIfInBounds_toArray, List.set_cons_zero, List.set_cons_succ]
  refine h_take 8 (.bool true) rfl 15 rfl (by kernel_rfl) (by kernel_rfl) (by kernel_rfl) (by kernel_rfl) (fun _ _ _ h => h) (fun w' _ => by kernel_rfl) ⟨S_4, M_4, X_4, trivial⟩ ?_
  simp only [Act.put, List.setIfInBounds_toArray, List.set_cons_zero, List.set_cons_succ]
  refine h_take 9 (.pointer (some ⟨b, 0, none⟩)) rfl 5 rfl (by kernel_rfl) (by kernel_rfl) (by kernel_rfl) (by kernel_rfl) (fun _ _ _ h => h) (fun w' _ => by kernel_rfl) ⟨S_4, M_4, X_4, trivial⟩ ?_
  simp only [Act.put, List.setIfInBounds_toArray, List.set_cons_zero, List.set_cons_succ]
  refine h_take 10 (.bool true) rfl 6 rfl (by kernel_rfl) (by kernel_rfl) (by kernel_rfl) (by kernel_rfl) (fun _ _ _ h => h) (fun w' _ => by kernel_rfl) ⟨S_4, M_4, X_4, trivial⟩ ?_
  simp only [Act.put, List.setIfInBounds_toArray, List.set_cons_zero, List.set_cons_succ]
  refine wpAnyH_done (by kernel_rfl) ?_ _
  go_wp2_with (first
    | ((with_reducible refine at_slot 18 ?_); (refine arm_load (o := ⟨some 18, _, _, _, _, _⟩) rfl _ _ rfl X 0 rfl (u8s (digS x)) ((Has.refl _).range X_4) (szH KH.out) ?_); try simp only [Act.put, List.setIfInBounds_toArray, List.set_cons_zero, List.set_cons_succ]))
  refine (CP.out _ A_4).mono ?_
  rintro e y ⟨rfl, hA, hc⟩
  go_wp2_with fail
  go_ret
  exact ⟨rfl, hA, (bel_4.more (fun k hk => hk.elim)).step hc⟩
set_option maxHeartbeats 4000000 in
set_option maxRecDepth 100000 in
theorem spin_none (F : Nat → Prop) (S r mb : Nat) (pin : Option (List Nat)) (E : Ents) (h : List Nat) (hh : H32 h) (w : World) (hS : SAt w F S r mb pin E) (hn : ∀ p ∈ E, digS p.1 ≠ h) :
    Calls Tryd.prog 8 #[.pointer (some ⟨S, 0, none⟩), .agg (u8s (h)).toArray] w (SPinPost w F S r mb pin E false) := by
  have HV : Hid ((if true = true then Value.tuple #[((Km.look (E.map entD) (h)).map ptrV).getD (.pointer none), .bool (Km.look (E.map entD) (h)).isSome] else ((Km.look (E.map entD) (h)).map ptrV).getD (.pointer none)) = .tuple #[.pointer none, .bool false]) := Lib.hid (by rw [look_no hn]; rfl)
  have hrow := hS.row
  have hmap := hS.map
  have KH := Lib.hid hh
  clear hn hh
  have HH : Hid (hashOk (h)) := Lib.hid KH.out.len
  have CP := Lib.hid (fun w0 a => spinIn_any F S r mb pin E (h) w0 a KH.out)
  go_enter Tryd.func8, Tryd.ntmps8
  have bel0 : Chg (fun _ => False) w w := Chg.refl _ _
  go_wp2_with (first
    | ((with_reducible refine at_slot 3 ?_); (refine arm_box (o := ⟨some 3, _, _, _, _, _⟩) rfl _ _ rfl (u8s (h)) rfl ?_); intro X v1 Xe hv1 nv1; try simp only [Act.put, List.setIfInBounds_toArray, List.set_cons_zero, List.set_cons_succ]))
  have hbv1 := nv1.below
  have rrv1 : Row v1 X 29 (u8s (h)) := hv1
  have geX : w.heap.size ≤ X := by have := Xe.out; have := bel0.size; omega
  have lXx : w.heap.size ≤ X := by have := Xe.out; omega
  clear hv1 nv1 Xe
  have S_2 : Row v1 S 67 (pcs r mb pin) := hrow.old hbv1
  have M_2 : PMap v1 mb E := hmap.old hbv1
  have A_2 : SAt v1 F S r mb pin E := hS.old hbv1
  have bel_2 : Chg (fun _ => False) w v1 := bel0.old hbv1
  clear hrow hmap hS bel0 hbv1
  refine wp_region_held (S := fun w' => Row w' S 67 (pcs r mb pin) ∧ PMap w' mb E ∧ Row w' X 29 (u8s (h)) ∧ True) (by kernel_rfl) ?_
  change wpAnyH _ _ _ _ _ _ _ _ v1.drew
  have hd3 : Below v1.heap.size v1 v1.drew := (Below.refl _ _).drew
  have S_4 : Row v1.drew S 67 (pcs r mb pin) := S_2.old hd3
  have M_4 : PMap v1.drew mb E := M_2.old hd3
  have A_4 : SAt v1.drew F S r mb pin E := A_2.old hd3
  have X_4 : Row v1.drew X 29 (u8s (h)) := rrv1.old hd3
  have bel_4 : Chg (fun _ => False) w v1.drew := bel_2.old hd3
  clear S_2 M_2 A_2 rrv1 bel_2 hd3
  generalize v1.drew = yz3 at S_4 M_4 A_4 X_4 bel_4 ⊢
  refine h_take 0 (.pointer (some ⟨S, 0, none⟩)) rfl 8 rfl (by kernel_rfl) (by kernel_rfl) (by kernel_rfl) (by kernel_rfl) (fun _ _ _ h => h) (fun w' _ => by kernel_rfl) ⟨S_4, M_4, X_4, trivial⟩ ?_
  simp only [Act.put, List.setIfInBounds_toArray, List.set_cons_zero, List.set_cons_succ]
  refine h_take 1 (.pointer (some ⟨S, 0, none⟩)) rfl 9 rfl (by kernel_rfl) (by kernel_rfl) (by kernel_rfl) (by kernel_rfl) (fun _ _ _ h => h) (fun w' _ => by kernel_rfl) ⟨S_4, M_4, X_4, trivial⟩ ?_
  simp only [Act.put, List.setIfInBounds_toArray, List.set_cons_zero, List.set_cons_succ]
  refine h_take 2 (.pointer (some ⟨S, 1, none⟩)) rfl 10 rfl (by kernel_rfl) (by kernel_rfl) (by kernel_rfl) (by kernel_rfl) (fun _ _ _ h => h) (fun w' _ => by kernel_rfl) ⟨S_4, M_4, X_4, trivial⟩ ?_
  simp only [Act.put, List.setIfInBounds_toArray, List.set_cons_zero, List.set_cons_succ]
  refine h_take 3 (.map (some mb)) rfl 11 rfl (by kernel_rfl) (by kernel_rfl) (by kernel_rfl) (by kernel_rfl) (fun _ _ _ h => h) (fun w' hw => run_op_load1 _ _ rfl (.map 29 71) und_map rfl ⟨S, 1, none⟩ rfl (.map (some mb)) (hw.1.cell (i := 1) rfl)) ⟨S_4, M_4, X_4, trivial⟩ ?_
  simp only [Act.put, List.setIfInBounds_toArray, List.set_cons_zero, List.set_cons_succ]
  refine h_take 4 (.agg (u8s (h)).toArray) rfl 12 rfl (by kernel_rfl) (by kernel_rfl) (by kernel_rfl) (by kernel_rfl) (fun _ _ _ h => h) (fun w' hw => run_op_load _ _ rfl X (0) rfl (u8s (h)) (((Has.refl _)).range hw.2.2.1) ((szH KH.out))) ⟨S_4, M_4, X_4, trivial⟩ ?_
  simp only [Act.put, List.setIfInBounds_toArray, List.set_cons_zero, List.set_cons_succ]
  refine h_take 5 (.tuple #[.pointer none, .bool false]) rfl 13 rfl (by kernel_rfl) (by kernel_rfl) (by kernel_rfl) (by kernel_rfl) (fun _ _ _ h => h) (fun w' hw => by rw [← HV.out]; exact run_op_lookupK _ _ _ true rfl rfl (h) HH.out rfl hw.2.1 hash_keys und_map _ (zero_ptr _)) ⟨S_4, M_4, X_4, trivial⟩ ?_
  simp only [Act.put, List.setIfInBounds_toArray, List.set_cons_zero, List.set_cons_succ]
  refine h_take 6 (.tuple #[.pointer none, .bool false]) rfl 7 rfl (by kernel_rfl) (by kernel_rfl) (by kernel_rfl) (by kernel_rfl) (fun _ _ _ h => h) (fun w' _ => by kernel_rfl) ⟨S_4, M_4, X_4, trivial⟩ ?_
  simp only [Act.put, List.setIfInBounds_toArray, List.set_cons_zero, List.set_cons_succ]
  refine h_take 7 (.pointer none) rfl 14 rfl (by kernel_rfl) (by kernel_rfl) (by kernel_rfl) (by kernel_rfl) (fun _ _ _ h => h) (fun w' _ => by kernel_rfl) ⟨S_4, M_4, X_4, trivial⟩ ?_
  simp only [Act.put, List.setIfInBounds_toArray, List.set_cons_zero, List.set_cons_succ]
  refine h_take 8 (.bool false) rfl 15 rfl (by kernel_rfl) (by kernel_rfl) (by kernel_rfl) (by kernel_rfl) (fun _ _ _ h => h) (fun w' _ => by kernel_rfl) ⟨S_4, M_4, X_4, trivial⟩ ?_
  simp only [Act.put, List.setIfInBounds_toArray, List.set_cons_zero, List.set_cons_succ]
  refine h_take 9 (.pointer none) rfl 5 rfl (by kernel_rfl) (by kernel_rfl) (by kernel_rfl) (by kernel_rfl) (fun _ _ _ h => h) (fun w' _ => by kernel_rfl) ⟨S_4, M_4, X_4, trivial⟩ ?_
  simp only [Act.put, List.setIfInBounds_toArray, List.set_cons_zero, List.set_cons_succ]
  refine h_take 10 (.bool false) rfl 6 rfl (by kernel_rfl) (by kernel_rfl) (by kernel_rfl) (by kernel_rfl) (fun _ _ _ h => h) (fun w' _ => by kernel_rfl) ⟨S_4, M_4, X_4, trivial⟩ ?_
  simp only [Act.put, List.setIfInBounds_toArray, List.set_cons_zero, List.set_cons_succ]
  refine wpAnyH_done (by kernel_rfl) ?_ _
  go_wp2_with fail
  go_ret
  exact ⟨rfl, A_4, bel_4.more (fun k hk => hk.elim)⟩
end Go.Proofs.YtnjmocobncncdaaDoor.So
