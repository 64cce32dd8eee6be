import Derived.Test.YtnjmocobncncdaaDoorStoIn
import Derived.Test.YtnjmocobncncdaaDoorMemAll
import Derived.Test.YtnjmocobncncdaaDoorCmp
/-
  The contracts of the store's New, Len, Pinned, Get, pin and Pin. Over this seat's translation.
-/
namespace Go.Proofs.YtnjmocobncncdaaDoor.So
open Go.ChangeShapes Go.WideShapes Go.ChangeAt Go.RowKit Go.Proofs.YtnjmocobncncdaaDoor.Mem Go.Proofs.YtnjmocobncncdaaDoor.Bt Go.Proofs.YtnjmocobncncdaaDoor.Km
open Go.Proofs.YtnjmocobncncdaaDoor.Ep (H32 zh zh_ok Has h_len szH zH fitH allH one_app num32)
open Go.Proofs.YtnjmocobncncdaaDoor.Sl (Kind At bk)
open Go.Proofs.YtnjmocobncncdaaDoor.Sa (Sta scs digS digS_ok sz_sta h_drw h_lngth)
open Go.Proofs.YtnjmocobncncdaaDoor.Od (Ky kcs keyN keyN_ok kcs_len kcs_one kcmp kval zk z_key sz_key fitK allK built_key compare_anyD)
set_option linter.unusedVariables false
set_option linter.unusedSimpArgs false

structure SNewPost (w : World) (room : Int) (e : Ending) (w' : World) : Prop where
  ex : (2 ≤ room ∧ room ≤ 100 ∧ ∃ S F, e = .returned (.tuple #[.pointer (some ⟨S, 0, none⟩), .int .i64 0]) ∧ PAt w' F S room.toNat none [] ∧ From F w.heap.size) ∨ (¬ (2 ≤ room ∧ room ≤ 100) ∧ e = .returned (.tuple #[.pointer none, .int .i64 1]))
  bel : Below w.heap.size w w'
set_option maxHeartbeats 4000000 in
set_option maxRecDepth 100000 in
theorem snew_any (room : Int) (w : World) :
    Calls Tryd.prog 6 #[.int .i64 room] w (SNewPost w room) := by
  by_cases h1 : room < 2
  · have d1 : decide (room < 2) = true := decide_eq_true h1
    have HN : Hid (¬ (2 ≤ room ∧ room ≤ 100)) := Lib.hid (by omega)
    clear h1
    go_enter Tryd.func6, Tryd.ntmps6
    go_wp2_with (first
      | ((with_reducible refine at_slot 5 ?_); (refine arm_want (.bool true) 5 rfl (by kernel_rfl) (cmp_lss _ _ _ _ rfl .i64 (room) (2) rfl rfl true (d1) _) ?_); try simp only [Act.put, List.setIfInBounds_toArray, List.set_cons_zero, List.set_cons_succ]))
    go_ret2
    exact ⟨.inr ⟨HN.out, rfl⟩, Below.refl _ _⟩
  · by_cases h2 : 100 < room
    · have d1 : decide (room < 2) = false := decide_eq_false h1
      have d2 : decide (100 < room) = true := decide_eq_true h2
      have HN : Hid (¬ (2 ≤ room ∧ room ≤ 100)) := Lib.hid (by omega)
      clear h1 h2
      go_enter Tryd.func6, Tryd.ntmps6
      go_wp2_with (first
        | ((with_reducible refine at_slot 5 ?_); (refine arm_want (.bool false) 5 rfl (by kernel_rfl) (cmp_lss _ _ _ _ rfl .i64 (room) (2) rfl rfl false (d1) _) ?_); try simp only [Act.put, List.setIfInBounds_toArray, List.set_cons_zero, List.set_cons_succ])
        | ((with_reducible refine at_slot 8 ?_); (refine arm_want (.bool true) 8 rfl (by kernel_rfl) (cmp_gtr _ _ _ _ rfl .i64 (room) (100) rfl rfl true (d2) _) ?_); try simp only [Act.put, List.setIfInBounds_toArray, List.set_cons_zero, List.set_cons_succ]))
      go_ret2
      exact ⟨.inr ⟨HN.out, rfl⟩, Below.refl _ _⟩
    · obtain ⟨r, rfl⟩ : ∃ r : Nat, room = (r : Int) := ⟨room.toNat, by omega⟩
      have d1 : decide ((r : Int) < 2) = false := decide_eq_false h1
      have d2 : decide (100 < (r : Int)) = false := decide_eq_false h2
      have HR1 : Hid (2 ≤ r ∧ r ≤ 100) := Lib.hid (by omega)
      have BC := Lib.hid built_own
      clear h1 h2
      go_enter Tryd.func6, Tryd.ntmps6
      go_wp2_with (first
        | ((with_reducible refine at_slot 5 ?_); (refine arm_want (.bool false) 5 rfl (by kernel_rfl) (cmp_lss _ _ _ _ rfl .i64 ((r : Int)) (2) rfl rfl false (d1) _) ?_); try simp only [Act.put, List.setIfInBounds_toArray, List.set_cons_zero, List.set_cons_succ])
        | ((with_reducible refine at_slot 8 ?_); (refine arm_want (.bool false) 8 rfl (by kernel_rfl) (cmp_gtr _ _ _ _ rfl .i64 ((r : Int)) (100) rfl rfl false (d2) _) ?_); try simp only [Act.put, List.setIfInBounds_toArray, List.set_cons_zero, List.set_cons_succ])
        | ((with_reducible refine at_slot 11 ?_); (refine arm_makeMapK (o := ⟨some 11, _, _, _, _, _⟩) rfl _ _ rfl rfl hashV ptrV hashOk ?_); intro mb v1 me hm nm; try simp only [Act.put, List.setIfInBounds_toArray, List.set_cons_zero, List.set_cons_succ])
        | ((with_reducible refine at_slot 12 ?_); (refine arm_build (o := ⟨some 12, _, _, _, _, _⟩) rfl _ _ rfl (pcs r mb none) (by simp only [List.map_toArray, List.map_cons, List.map_nil]; exact BC.out r mb) ?_); try simp only [Act.put, List.setIfInBounds_toArray, List.set_cons_zero, List.set_cons_succ])
        | ((with_reducible refine at_slot 13 ?_); (refine arm_box (o := ⟨some 13, _, _, _, _, _⟩) rfl _ _ rfl (pcs r mb none) rfl ?_); intro S v2 Se hv2 nv2; try simp only [Act.put, List.setIfInBounds_toArray, List.set_cons_zero, List.set_cons_succ]))
      go_ret2
      have hBl : w.heap.size ≤ S := by have := Se.out; have := nm.size; omega
      have hml : w.heap.size ≤ mb := by have := me.out; omega
      have hR1 := HR1.out
      have hb : Below w.heap.size w v2 := below_step nm.below nm.below.size nv2.below
      exact ⟨.inl ⟨by omega, by omega, S, fun k => k = S ∨ k = mb, rfl, ⟨⟨mb, [], ⟨by rw [Int.toNat_natCast]; exact hv2, hm.old nv2.below, fun p hp => (nomatch hp), fun p hp => (nomatch hp), fun p hp => (by cases hp), .inl rfl, .inr rfl, fun p hp => (nomatch hp), fun k hk => by rcases hk with rfl | rfl; exact hv2.lt; exact (hm.old nv2.below).lt⟩, List.Perm.refl _⟩, by rw [Int.toNat_natCast]; exact s_nil hR1.1⟩, fun k hk => by rcases hk with rfl | rfl <;> assumption⟩, hb⟩
set_option maxHeartbeats 4000000 in
set_option maxRecDepth 100000 in
theorem slen_any (F : Nat → Prop) (S r mb : Nat) (pin : Option (List Nat)) (E : Ents) (w : World) (hS : SAt w F S r mb pin E) :
    Calls Tryd.prog 14 #[.pointer (some ⟨S, 0, none⟩)] w fun e w' => e = .returned (.int .i64 (E.length : Int)) ∧ w = w' := by
  have hM := hS.map
  have HK : Hid ((E.map entD).length = E.length) := Lib.hid (List.length_map ..)
  have c1 := hS.row.cell (i := 1) rfl
  clear hS
  go_enter Tryd.func14, Tryd.ntmps14
  go_wp2_with ((with_reducible refine at_slot 7 ?_); (refine arm_lenK (o := ⟨some 7, _, _, _, _, _⟩) rfl _ _ rfl rfl hM und_map ?_); try simp only [Act.put, List.setIfInBounds_toArray, List.set_cons_zero, List.set_cons_succ])
  go_ret
  exact ⟨congrArg (fun n : Nat => Ending.returned (Value.int .i64 (n : Int))) HK.out, rfl⟩
set_option maxHeartbeats 4000000 in
set_option maxRecDepth 100000 in
theorem spinned_any (F : Nat → Prop) (S r mb : Nat) (pin : Option (List Nat)) (E : Ents) (w : World) (hS : SAt w F S r mb pin E) :
    Calls Tryd.prog 10 #[.pointer (some ⟨S, 0, none⟩)] w fun e w' => e = .returned (.tuple #[.agg (u8s (pin.getD zh)).toArray, .bool pin.isSome]) ∧ Below w.heap.size w w' := by
  have PO := Lib.hid (pin_ok' hS.pok)
  have hrow := hS.row
  have C34 : Hid (∀ w', Row w' S 67 (pcs r mb pin) → w'.cell? ⟨S, 34, none⟩ = some (.bool pin.isSome)) := Lib.hid fun w' h => h.cell (pcs_34 PO.out)
  have C2 : Hid (∀ w', Row w' S 67 (pcs r mb pin) → w'.rangeAt S 2 (u8s (pin.getD zh))) := Lib.hid fun w' h => pcs_2.range h
  generalize pin.getD zh = d at PO C2 ⊢
  generalize pin.isSome = s at C34 ⊢
  clear hS
  go_enter Tryd.func10, Tryd.ntmps10
  have bel0 : Chg (fun _ => False) w w := Chg.refl _ _
  go_wp2_with (first
    | ((with_reducible refine at_slot 2 ?_); (refine arm_alloc (o := ⟨some 2, _, _, _, _, _⟩) rfl _ rfl (u8s zh) zH ?_); intro R v1 Re hv1 nv1; try simp only [Act.put, List.setIfInBounds_toArray, List.set_cons_zero, List.set_cons_succ]))
  have hbv1 := nv1.below
  have rrv1 : Row v1 R 29 (u8s zh) := hv1
  have geR : w.heap.size ≤ R := by have := Re.out; have := bel0.size; omega
  have lRx : w.heap.size ≤ R := by have := Re.out; omega
  clear hv1 nv1 Re
  have S_2 : Row v1 S 67 (pcs r mb pin) := hrow.old hbv1
  have bel_2 : Chg (fun _ => False) w v1 := bel0.old hbv1
  clear hrow bel0 hbv1
  have nSR : S ≠ R := S_2.ne_type rrv1 (by decide)
  refine wp_region_held (S := fun w' => Row w' S 67 (pcs r mb pin) ∧ True) (by kernel_rfl) ?_
  change wpAnyH _ _ _ _ _ _ _ _ v1.drew
  have hd3 : Below v1.heap.size v1 v1.drew := (Below.refl _ _).drew
  have S_4 : Row v1.drew S 67 (pcs r mb pin) := S_2.old hd3
  have R_4 : Row v1.drew R 29 (u8s zh) := rrv1.old hd3
  have bel_4 : Chg (fun _ => False) w v1.drew := bel_2.old hd3
  clear S_2 rrv1 bel_2 hd3
  generalize v1.drew = yz3 at S_4 R_4 bel_4 ⊢
  refine h_take 0 (.pointer (some ⟨S, 0, none⟩)) rfl 4 rfl (by kernel_rfl) (by kernel_rfl) (by kernel_rfl) (by kernel_rfl) (fun _ _ _ h => h) (fun w' _ => by kernel_rfl) ⟨S_4, trivial⟩ ?_
  simp only [Act.put, List.setIfInBounds_toArray, List.set_cons_zero, List.set_cons_succ]
  refine h_take 1 (.pointer (some ⟨S, 0, none⟩)) rfl 5 rfl (by kernel_rfl) (by kernel_rfl) (by kernel_rfl) (by kernel_rfl) (fun _ _ _ h => h) (fun w' _ => by kernel_rfl) ⟨S_4, trivial⟩ ?_
  simp only [Act.put, List.setIfInBounds_toArray, List.set_cons_zero, List.set_cons_succ]
  refine h_take 2 (.pointer (some ⟨S, 2, none⟩)) rfl 6 rfl (by kernel_rfl) (by kernel_rfl) (by kernel_rfl) (by kernel_rfl) (fun _ _ _ h => h) (fun w' _ => by kernel_rfl) ⟨S_4, trivial⟩ ?_
  simp only [Act.put, List.setIfInBounds_toArray, List.set_cons_zero, List.set_cons_succ]
  refine h_take 3 (.agg (u8s d).toArray) rfl 7 rfl (by kernel_rfl) (by kernel_rfl) (by kernel_rfl) (by kernel_rfl) (fun _ _ _ h => h) (fun w' hw => run_op_load _ _ rfl S 2 rfl (u8s d) (C2.out _ hw.1) (szH PO.out)) ⟨S_4, trivial⟩ ?_
  simp only [Act.put, List.setIfInBounds_toArray, List.set_cons_zero, List.set_cons_succ]
  refine h_take 4 (.pointer (some ⟨S, 0, none⟩)) rfl 8 rfl (by kernel_rfl) (by kernel_rfl) (by kernel_rfl) (by kernel_rfl) (fun _ _ _ h => h) (fun w' _ => by kernel_rfl) ⟨S_4, trivial⟩ ?_
  simp only [Act.put, List.setIfInBounds_toArray, List.set_cons_zero, List.set_cons_succ]
  refine h_take 5 (.pointer (some ⟨S, 0, none⟩)) rfl 9 rfl (by kernel_rfl) (by kernel_rfl) (by kernel_rfl) (by kernel_rfl) (fun _ _ _ h => h) (fun w' _ => by kernel_rfl) ⟨S_4, trivial⟩ ?_
  simp only [Act.put, List.setIfInBounds_toArray, List.set_cons_zero, List.set_cons_succ]
  refine h_take 6 (.pointer (some ⟨S, 34, none⟩)) rfl 10 rfl (by kernel_rfl) (by kernel_rfl) (by kernel_rfl) (by kernel_rfl) (fun _ _ _ h => h) (fun w' _ => by kernel_rfl) ⟨S_4, trivial⟩ ?_
  simp only [Act.put, List.setIfInBounds_toArray, List.set_cons_zero, List.set_cons_succ]
  refine h_take 7 (.bool s) rfl 11 rfl (by kernel_rfl) (by kernel_rfl) (by kernel_rfl) (by kernel_rfl) (fun _ _ _ h => h) (fun w' hw => run_op_load1 _ _ rfl (.bool) (by kernel_rfl) rfl ⟨S, 34, none⟩ rfl (.bool s) (C34.out _ hw.1)) ⟨S_4, trivial⟩ ?_
  simp only [Act.put, List.setIfInBounds_toArray, List.set_cons_zero, List.set_cons_succ]
  refine h_one (i := 8) (by kernel_rfl) (o_skip rfl rfl (by kernel_rfl) (run_op_store _ _ _ rfl R (0) rfl (u8s d) rfl _ _ R_4 (fitH PO.out) (u8s_one _) (szH PO.out)) ?_)
  have rq := row_setRow R_4 (lay (u8s zh) (0) (u8s d))
  have oq := Only.setRow R yz3 (lay (u8s zh) (0) (u8s d)).toArray
  generalize yz3.setRow R (lay (u8s zh) (0) (u8s d)).toArray = y5 at rq oq ⊢
  have S_6 : Row y5 S 67 (pcs r mb pin) := S_4.only oq nSR
  have R_6 : Row y5 R 29 (u8s d) := rq.congr (allH PO.out)
  have bel_6 : Chg (fun _ => False) w y5 := bel_4.new oq (geR)
  clear S_4 R_4 bel_4 oq
  clear rq
  refine ⟨⟨S_6, trivial⟩, ?_⟩
  refine h_take 9 (.bool s) rfl 3 rfl (by kernel_rfl) (by kernel_rfl) (by kernel_rfl) (by kernel_rfl) (fun _ _ _ h => h) (fun w' _ => by kernel_rfl) ⟨S_6, trivial⟩ ?_
  simp only [Act.put, List.setIfInBounds_toArray, List.set_cons_zero, List.set_cons_succ]
  refine wpAnyH_done (by kernel_rfl) ?_ _
  go_wp2_with fail
  exact bodyPost_ret (result_row2 (p := 2) (u := 3) (ty := 29) (t := 29) (by kernel_rfl) _ _ R (u8s d) (.bool s) rfl rfl R_6 (szH PO.out)) rfl ⟨rfl, bel_6.below (fun k hk => hk.elim) (Nat.le_refl _)⟩
set_option maxHeartbeats 4000000 in
set_option maxRecDepth 100000 in
theorem sget_some (F : Nat → Prop) (S r mb : Nat) (pin : Option (List Nat)) (E : Ents) (x : Sta) (b : Nat) (w : World) (hS : SAt w F S r mb pin E) (hx : (x, b) ∈ E) :
    Calls Tryd.prog 11 #[.pointer (some ⟨S, 0, none⟩), .agg (u8s (digS x)).toArray] w fun e w' => e = .returned (.tuple #[.agg (scs x).toArray, .bool true]) ∧ Below w.heap.size w w' := by
  have HV : Hid ((if true = true then Value.tuple #[((Km.look (E.map entD) (digS x)).map ptrV).getD (.pointer none), .bool (Km.look (E.map entD) (digS x)).isSome] else ((Km.look (E.map entD) (digS x)).map ptrV).getD (.pointer none)) = .tuple #[.pointer (some ⟨b, 0, none⟩), .bool true]) := Lib.hid (by rw [look_ent (ent_nodup hS) hx]; rfl)
  have hrow := hS.row
  have hmap := hS.map
  have hst : Row w b 41 (scs x) := hS.st _ hx
  have OK := Lib.hid (hS.ok _ hx)
  have KH := Lib.hid (digS_ok x)
  clear hS hx
  have HH : Hid (hashOk (digS x)) := Lib.hid KH.out.len
  go_enter Tryd.func11, Tryd.ntmps11
  have bel0 : Chg (fun _ => False) w w := Chg.refl _ _
  go_wp2_with (first
    | ((with_reducible refine at_slot 3 ?_); (refine arm_box (o := ⟨some 3, _, _, _, _, _⟩) rfl _ _ rfl (u8s (digS x)) rfl ?_); intro X v1 Xe hv1 nv1; try simp only [Act.put, List.setIfInBounds_toArray, List.set_cons_zero, List.set_cons_succ])
    | ((with_reducible refine at_slot 4 ?_); (refine arm_alloc (o := ⟨some 4, _, _, _, _, _⟩) rfl _ rfl (scs Sa.zs) Sa.z_sta ?_); intro R v2 Re hv2 nv2; try simp only [Act.put, List.setIfInBounds_toArray, List.set_cons_zero, List.set_cons_succ]))
  have hbv1 := nv1.below
  have rrv1 : Row v1 X 29 (u8s (digS x)) := hv1
  have hbv2 := nv2.below
  have rrv2 : Row v2 R 41 (scs Sa.zs) := hv2
  have geX : w.heap.size ≤ X := by have := Xe.out; have := bel0.size; omega
  have lXx : w.heap.size ≤ X := by have := Xe.out; omega
  clear hv1 nv1 Xe
  have S_3 : Row v1 S 67 (pcs r mb pin) := hrow.old hbv1
  have M_3 : PMap v1 mb E := hmap.old hbv1
  have b_3 : Row v1 b 41 (scs x) := hst.old hbv1
  have bel_3 : Chg (fun _ => False) w v1 := bel0.old hbv1
  clear hrow hmap hst bel0 hbv1
  have geR : w.heap.size ≤ R := by have := Re.out; have := bel_3.size; omega
  have ltXR : X < R := by have := Re.out; have := rrv1.lt; omega
  have lRx : v1.heap.size ≤ R := by have := Re.out; omega
  clear hv2 nv2 Re
  have S_4 : Row v2 S 67 (pcs r mb pin) := S_3.old hbv2
  have M_4 : PMap v2 mb E := M_3.old hbv2
  have b_4 : Row v2 b 41 (scs x) := b_3.old hbv2
  have X_4 : Row v2 X 29 (u8s (digS x)) := rrv1.old hbv2
  have bel_4 : Chg (fun _ => False) w v2 := bel_3.old hbv2
  clear S_3 M_3 b_3 rrv1 bel_3 hbv2
  refine wp_region_held (S := fun w' => Row w' S 67 (pcs r mb pin) ∧ PMap w' mb E ∧ Row w' X 29 (u8s (digS x)) ∧ True) (by kernel_rfl) ?_
  change wpAnyH _ _ _ _ _ _ _ _ v2.drew
  have hd5 : Below v2.heap.size v2 v2.drew := (Below.refl _ _).drew
  have S_6 : Row v2.drew S 67 (pcs r mb pin) := S_4.old hd5
  have M_6 : PMap v2.drew mb E := M_4.old hd5
  have b_6 : Row v2.drew b 41 (scs x) := b_4.old hd5
  have X_6 : Row v2.drew X 29 (u8s (digS x)) := X_4.old hd5
  have R_6 : Row v2.drew R 41 (scs Sa.zs) := rrv2.old hd5
  have bel_6 : Chg (fun _ => False) w v2.drew := bel_4.old hd5
  clear S_4 M_4 b_4 X_4 rrv2 bel_4 hd5
  generalize v2.drew = yz5 at S_6 M_6 b_6 X_6 R_6 bel_6 ⊢
  refine h_take 0 (.pointer (some ⟨S, 0, none⟩)) rfl 9 rfl (by kernel_rfl) (by kernel_rfl) (by kernel_rfl) (by kernel_rfl) (fun _ _ _ h => h) (fun w' _ => by kernel_rfl) ⟨S_6, M_6, X_6, trivial⟩ ?_
  simp only [Act.put, List.setIfInBounds_toArray, List.set_cons_zero, List.set_cons_succ]
  refine h_take 1 (.pointer (some ⟨S, 0, none⟩)) rfl 10 rfl (by kernel_rfl) (by kernel_rfl) (by kernel_rfl) (by kernel_rfl) (fun _ _ _ h => h) (fun w' _ => by kernel_rfl) ⟨S_6, M_6, X_6, trivial⟩ ?_
  simp only [Act.put, List.setIfInBounds_toArray, List.set_cons_zero, List.set_cons_succ]
  refine h_take 2 (.pointer (some ⟨S, 1, none⟩)) rfl 11 rfl (by kernel_rfl) (by kernel_rfl) (by kernel_rfl) (by kernel_rfl) (fun _ _ _ h => h) (fun w' _ => by kernel_rfl) ⟨S_6, M_6, X_6, trivial⟩ ?_
  simp only [Act.put, List.setIfInBounds_toArray, List.set_cons_zero, List.set_cons_succ]
  refine h_take 3 (.map (some mb)) rfl 12 rfl (by kernel_rfl) (by kernel_rfl) (by kernel_rfl) (by kernel_rfl) (fun _ _ _ h => h) (fun w' hw => run_op_load1 _ _ rfl (.map 29 71) und_map rfl ⟨S, 1, none⟩ rfl (.map (some mb)) (hw.1.cell (i := 1) rfl)) ⟨S_6, M_6, X_6, trivial⟩ ?_
  simp only [Act.put, List.setIfInBounds_toArray, List.set_cons_zero, List.set_cons_succ]
  refine h_take 4 (.agg (u8s (digS x)).toArray) rfl 13 rfl (by kernel_rfl) (by kernel_rfl) (by kernel_rfl) (by kernel_rfl) (fun _ _ _ h => h) (fun w' hw => run_op_load _ _ rfl X (0) rfl (u8s (digS x)) (((Has.refl _)).range hw.2.2.1) ((szH KH.out))) ⟨S_6, M_6, X_6, trivial⟩ ?_
  simp only [Act.put, List.setIfInBounds_toArray, List.set_cons_zero, List.set_cons_succ]
  refine h_take 5 (.tuple #[.pointer (some ⟨b, 0, none⟩), .bool true]) rfl 14 rfl (by kernel_rfl) (by kernel_rfl) (by kernel_rfl) (by kernel_rfl) (fun _ _ _ h => h) (fun w' hw => by rw [← HV.out]; exact run_op_lookupK _ _ _ true rfl rfl (digS x) HH.out rfl hw.2.1 hash_keys und_map _ (zero_ptr _)) ⟨S_6, M_6, X_6, trivial⟩ ?_
  simp only [Act.put, List.setIfInBounds_toArray, List.set_cons_zero, List.set_cons_succ]
  refine h_take 6 (.tuple #[.pointer (some ⟨b, 0, none⟩), .bool true]) rfl 8 rfl (by kernel_rfl) (by kernel_rfl) (by kernel_rfl) (by kernel_rfl) (fun _ _ _ h => h) (fun w' _ => by kernel_rfl) ⟨S_6, M_6, X_6, trivial⟩ ?_
  simp only [Act.put, List.setIfInBounds_toArray, List.set_cons_zero, List.set_cons_succ]
  refine h_take 7 (.pointer (some ⟨b, 0, none⟩)) rfl 15 rfl (by kernel_rfl) (by kernel_rfl) (by kernel_rfl) (by kernel_rfl) (fun _ _ _ h => h) (fun w' _ => by kernel_rfl) ⟨S_6, M_6, X_6, trivial⟩ ?_
  simp only [Act.put, List.setIfInBounds_toArray, List.set_cons_zero, List.set_cons_succ]
  refine h_take 8 (.bool true) rfl 16 rfl (by kernel_rfl) (by kernel_rfl) (by kernel_rfl) (by kernel_rfl) (fun _ _ _ h => h) (fun w' _ => by kernel_rfl) ⟨S_6, M_6, X_6, trivial⟩ ?_
  simp only [Act.put, List.setIfInBounds_toArray, List.set_cons_zero, List.set_cons_succ]
  refine h_take 9 (.pointer (some ⟨b, 0, none⟩)) rfl 6 rfl (by kernel_rfl) (by kernel_rfl) (by kernel_rfl) (by kernel_rfl) (fun _ _ _ h => h) (fun w' _ => by kernel_rfl) ⟨S_6, M_6, X_6, trivial⟩ ?_
  simp only [Act.put, List.setIfInBounds_toArray, List.set_cons_zero, List.set_cons_succ]
  refine h_take 10 (.bool true) rfl 7 rfl (by kernel_rfl) (by kernel_rfl) (by kernel_rfl) (by kernel_rfl) (fun _ _ _ h => h) (fun w' _ => by kernel_rfl) ⟨S_6, M_6, X_6, trivial⟩ ?_
  simp only [Act.put, List.setIfInBounds_toArray, List.set_cons_zero, List.set_cons_succ]
  refine wpAnyH_done (by kernel_rfl) ?_ _
  go_wp2_with (first
    | ((with_reducible refine at_slot 20 ?_); (refine arm_load (o := ⟨some 20, _, _, _, _, _⟩) rfl _ _ rfl b 0 rfl (scs x) ((Has.refl _).range b_6) (sz_sta OK.out) ?_); try simp only [Act.put, List.setIfInBounds_toArray, List.set_cons_zero, List.set_cons_succ])
    | ((with_reducible refine arm_store (o := ⟨none, _, _, _, _, _⟩) rfl _ _ _ rfl R 0 rfl (scs x) rfl _ _ (R_6) (Sa.fitS OK.out) (Sa.scs_one _) (sz_sta OK.out) ?_); intro y8 hy8 oy8 sy8; try simp only [Act.put, List.setIfInBounds_toArray, List.set_cons_zero, List.set_cons_succ]))
  have rR8 : Row y8 R 41 (scs x) := hy8.congr (Sa.allS OK.out)
  have hb8 := bel_6.new oy8 geR
  exact bodyPost_ret (result_row2 (p := 4) (u := 5) (ty := 41) (t := 41) (by kernel_rfl) _ _ R (scs x) (.bool true) rfl rfl rR8 (sz_sta OK.out)) rfl ⟨rfl, hb8.below (fun k hk => hk.elim) (Nat.le_refl _)⟩
set_option maxHeartbeats 4000000 in
set_option maxRecDepth 100000 in
theorem sget_none (F : Nat → Prop) (S r mb : Nat) (pin : Option (List Nat)) (E : Ents) (h : List Nat) (hh : H32 h) (w : World) (hS : SAt w F S r mb pin E) (hn : ∀ p ∈ E, digS p.1 ≠ h) :
    Calls Tryd.prog 11 #[.pointer (some ⟨S, 0, none⟩), .agg (u8s (h)).toArray] w fun e w' => e = .returned (.tuple #[.agg (scs Sa.zs).toArray, .bool false]) ∧ Below w.heap.size w w' := by
  have HV : Hid ((if true = true then Value.tuple #[((Km.look (E.map entD) (h)).map ptrV).getD (.pointer none), .bool (Km.look (E.map entD) (h)).isSome] else ((Km.look (E.map entD) (h)).map ptrV).getD (.pointer none)) = .tuple #[.pointer none, .bool false]) := Lib.hid (by rw [look_no hn]; rfl)
  have hrow := hS.row
  have hmap := hS.map
  have OK := Lib.hid Sa.zs_ok
  have KH := Lib.hid hh
  clear hS hn hh
  have HH : Hid (hashOk (h)) := Lib.hid KH.out.len
  go_enter Tryd.func11, Tryd.ntmps11
  have bel0 : Chg (fun _ => False) w w := Chg.refl _ _
  go_wp2_with (first
    | ((with_reducible refine at_slot 3 ?_); (refine arm_box (o := ⟨some 3, _, _, _, _, _⟩) rfl _ _ rfl (u8s (h)) rfl ?_); intro X v1 Xe hv1 nv1; try simp only [Act.put, List.setIfInBounds_toArray, List.set_cons_zero, List.set_cons_succ])
    | ((with_reducible refine at_slot 4 ?_); (refine arm_alloc (o := ⟨some 4, _, _, _, _, _⟩) rfl _ rfl (scs Sa.zs) Sa.z_sta ?_); intro R v2 Re hv2 nv2; try simp only [Act.put, List.setIfInBounds_toArray, List.set_cons_zero, List.set_cons_succ]))
  have hbv1 := nv1.below
  have rrv1 : Row v1 X 29 (u8s (h)) := hv1
  have hbv2 := nv2.below
  have rrv2 : Row v2 R 41 (scs Sa.zs) := hv2
  have geX : w.heap.size ≤ X := by have := Xe.out; have := bel0.size; omega
  have lXx : w.heap.size ≤ X := by have := Xe.out; omega
  clear hv1 nv1 Xe
  have S_3 : Row v1 S 67 (pcs r mb pin) := hrow.old hbv1
  have M_3 : PMap v1 mb E := hmap.old hbv1
  have bel_3 : Chg (fun _ => False) w v1 := bel0.old hbv1
  clear hrow hmap bel0 hbv1
  have geR : w.heap.size ≤ R := by have := Re.out; have := bel_3.size; omega
  have ltXR : X < R := by have := Re.out; have := rrv1.lt; omega
  have lRx : v1.heap.size ≤ R := by have := Re.out; omega
  clear hv2 nv2 Re
  have S_4 : Row v2 S 67 (pcs r mb pin) := S_3.old hbv2
  have M_4 : PMap v2 mb E := M_3.old hbv2
  have X_4 : Row v2 X 29 (u8s (h)) := rrv1.old hbv2
  have bel_4 : Chg (fun _ => False) w v2 := bel_3.old hbv2
  clear S_3 M_3 rrv1 bel_3 hbv2
  refine wp_region_held (S := fun w' => Row w' S 67 (pcs r mb pin) ∧ PMap w' mb E ∧ Row w' X 29 (u8s (h)) ∧ True) (by kernel_rfl) ?_
  change wpAnyH _ _ _ _ _ _ _ _ v2.drew
  have hd5 : Below v2.heap.size v2 v2.drew := (Below.refl _ _).drew
  have S_6 : Row v2.drew S 67 (pcs r mb pin) := S_4.old hd5
  have M_6 : PMap v2.drew mb E := M_4.old hd5
  have X_6 : Row v2.drew X 29 (u8s (h)) := X_4.old hd5
  have R_6 : Row v2.drew R 41 (scs Sa.zs) := rrv2.old hd5
  have bel_6 : Chg (fun _ => False) w v2.drew := bel_4.old hd5
  clear S_4 M_4 X_4 rrv2 bel_4 hd5
  generalize v2.drew = yz5 at S_6 M_6 X_6 R_6 bel_6 ⊢
  refine h_take 0 (.pointer (some ⟨S, 0, none⟩)) rfl 9 rfl (by kernel_rfl) (by kernel_rfl) (by kernel_rfl) (by kernel_rfl) (fun _ _ _ h => h) (fun w' _ => by kernel_rfl) ⟨S_6, M_6, X_6, trivial⟩ ?_
  simp only [Act.put, List.setIfInBounds_toArray, List.set_cons_zero, List.set_cons_succ]
  refine h_take 1 (.pointer (some ⟨S, 0, none⟩)) rfl 10 rfl (by kernel_rfl) (by kernel_rfl) (by kernel_rfl) (by kernel_rfl) (fun _ _ _ h => h) (fun w' _ => by kernel_rfl) ⟨S_6, M_6, X_6, trivial⟩ ?_
  simp only [Act.put, List.setIfInBounds_toArray, List.set_cons_zero, List.set_cons_succ]
  refine h_take 2 (.pointer (some ⟨S, 1, none⟩)) rfl 11 rfl (by kernel_rfl) (by kernel_rfl) (by kernel_rfl) (by kernel_rfl) (fun _ _ _ h => h) (fun w' _ => by kernel_rfl) ⟨S_6, M_6, X_6, trivial⟩ ?_
  simp only [Act.put, List.setIfInBounds_toArray, List.set_cons_zero, List.set_cons_succ]
  refine h_take 3 (.map (some mb)) rfl 12 rfl (by kernel_rfl) (by kernel_rfl) (by kernel_rfl) (by kernel_rfl) (fun _ _ _ h => h) (fun w' hw => run_op_load1 _ _ rfl (.map 29 71) und_map rfl ⟨S, 1, none⟩ rfl (.map (some mb)) (hw.1.cell (i := 1) rfl)) ⟨S_6, M_6, X_6, trivial⟩ ?_
  simp only [Act.put, List.setIfInBounds_toArray, List.set_cons_zero, List.set_cons_succ]
  refine h_take 4 (.agg (u8s (h)).toArray) rfl 13 rfl (by kernel_rfl) (by kernel_rfl) (by kernel_rfl) (by kernel_rfl) (fun _ _ _ h => h) (fun w' hw => run_op_load _ _ rfl X (0) rfl (u8s (h)) (((Has.refl _)).range hw.2.2.1) ((szH KH.out))) ⟨S_6, M_6, X_6, trivial⟩ ?_
  simp only [Act.put, List.setIfInBounds_toArray, List.set_cons_zero, List.set_cons_succ]
  refine h_take 5 (.tuple #[.pointer none, .bool false]) rfl 14 rfl (by kernel_rfl) (by kernel_rfl) (by kernel_rfl) (by kernel_rfl) (fun _ _ _ h => h) (fun w' hw => by rw [← HV.out]; exact run_op_lookupK _ _ _ true rfl rfl (h) HH.out rfl hw.2.1 hash_keys und_map _ (zero_ptr _)) ⟨S_6, M_6, X_6, trivial⟩ ?_
  simp only [Act.put, List.setIfInBounds_toArray, List.set_cons_zero, List.set_cons_succ]
  refine h_take 6 (.tuple #[.pointer none, .bool false]) rfl 8 rfl (by kernel_rfl) (by kernel_rfl) (by kernel_rfl) (by kernel_rfl) (fun _ _ _ h => h) (fun w' _ => by kernel_rfl) ⟨S_6, M_6, X_6, trivial⟩ ?_
  simp only [Act.put, List.setIfInBounds_toArray, List.set_cons_zero, List.set_cons_succ]
  refine h_take 7 (.pointer none) rfl 15 rfl (by kernel_rfl) (by kernel_rfl) (by kernel_rfl) (by kernel_rfl) (fun _ _ _ h => h) (fun w' _ => by kernel_rfl) ⟨S_6, M_6, X_6, trivial⟩ ?_
  simp only [Act.put, List.setIfInBounds_toArray, List.set_cons_zero, List.set_cons_succ]
  refine h_take 8 (.bool false) rfl 16 rfl (by kernel_rfl) (by kernel_rfl) (by kernel_rfl) (by kernel_rfl) (fun _ _ _ h => h) (fun w' _ => by kernel_rfl) ⟨S_6, M_6, X_6, trivial⟩ ?_
  simp only [Act.put, List.setIfInBounds_toArray, List.set_cons_zero, List.set_cons_succ]
  refine h_take 9 (.pointer none) rfl 6 rfl (by kernel_rfl) (by kernel_rfl) (by kernel_rfl) (by kernel_rfl) (fun _ _ _ h => h) (fun w' _ => by kernel_rfl) ⟨S_6, M_6, X_6, trivial⟩ ?_
  simp only [Act.put, List.setIfInBounds_toArray, List.set_cons_zero, List.set_cons_succ]
  refine h_take 10 (.bool false) rfl 7 rfl (by kernel_rfl) (by kernel_rfl) (by kernel_rfl) (by kernel_rfl) (fun _ _ _ h => h) (fun w' _ => by kernel_rfl) ⟨S_6, M_6, X_6, trivial⟩ ?_
  simp only [Act.put, List.setIfInBounds_toArray, List.set_cons_zero, List.set_cons_succ]
  refine wpAnyH_done (by kernel_rfl) ?_ _
  go_wp2_with (first
    | ((with_reducible refine at_slot 21 ?_); (refine arm_build (o := ⟨some 21, _, _, _, _, _⟩) rfl _ _ rfl (scs Sa.zs) (by kernel_rfl) ?_); try simp only [Act.put, List.setIfInBounds_toArray, List.set_cons_zero, List.set_cons_succ])
    | ((with_reducible refine arm_store (o := ⟨none, _, _, _, _, _⟩) rfl _ _ _ rfl R 0 rfl (scs Sa.zs) rfl _ _ (R_6) (Sa.fitS OK.out) (Sa.scs_one _) (sz_sta OK.out) ?_); intro y8 hy8 oy8 sy8; try simp only [Act.put, List.setIfInBounds_toArray, List.set_cons_zero, List.set_cons_succ]))
  have rR8 : Row y8 R 41 (scs Sa.zs) := hy8.congr (Sa.allS OK.out)
  have hb8 := bel_6.new oy8 geR
  exact bodyPost_ret (result_row2 (p := 4) (u := 5) (ty := 41) (t := 41) (by kernel_rfl) _ _ R (scs Sa.zs) (.bool false) rfl rfl rR8 (sz_sta OK.out)) rfl ⟨rfl, hb8.below (fun k hk => hk.elim) (Nat.le_refl _)⟩
theorem lay_pin {r mb : Nat} {pin : Option (List Nat)} {h : List Nat} (hp : H32 (pin.getD zh)) (hh : H32 h) : (lay (pcs r mb pin) 2 (u8s h)).set 34 (.bool true) = pcs r mb (some h) := by
  have e : lay (pcs r mb pin) 2 (u8s h) = .int .i64 (r : Int) :: .map (some mb) :: (u8s h ++ [.bool pin.isSome]) := by
    unfold lay pcs
    rw [h_len hh]
    simp only [List.append_assoc, List.cons_append, List.nil_append, List.take_succ_cons, List.take_zero, List.drop_succ_cons, Nat.reduceAdd]
    rw [List.drop_left' (h_len hp)]
  rw [e, List.set_cons_succ, List.set_cons_succ, List.set_append_right _ _ (by rw [h_len hh]; exact Nat.le_refl _), h_len hh]
  rfl
theorem lay_pin_len {r mb : Nat} {pin : Option (List Nat)} {h : List Nat} (hp : H32 (pin.getD zh)) (hh : H32 h) : 34 < (lay (pcs r mb pin) 2 (u8s h)).length := by
  have := congrArg List.length (lay_pin (r := r) (mb := mb) hp hh)
  rw [List.length_set] at this
  rw [this]
  unfold pcs
  rw [List.length_append, List.length_append, h_len (show H32 ((some h).getD zh) from hh)]
  exact Nat.lt_succ_self 34
theorem fit_pin {r mb : Nat} {pin : Option (List Nat)} {h : List Nat} (hp : H32 (pin.getD zh)) (hh : H32 h) : 2 + (u8s h).length ≤ (pcs r mb pin).length := by
  unfold pcs
  rw [List.length_append, List.length_append, h_len hp, h_len hh]
  exact Nat.le_succ 34
structure PinInPost (w : World) (F : Nat → Prop) (S r mb : Nat) (h : List Nat) (E : Ents) (e : Ending) (w' : World) : Prop where
  ret : e = .returned (.tuple #[])
  at_ : SAt w' F S r mb (some h) E
  chg : Chg F w w'
set_option maxHeartbeats 4000000 in
set_option maxRecDepth 100000 in
theorem spinIn_any (F : Nat → Prop) (S r mb : Nat) (pin : Option (List Nat)) (E : Ents) (h : List Nat) (w : World) (hS : SAt w F S r mb pin E) (hh : H32 h) :
    Calls Tryd.prog 22 #[.pointer (some ⟨S, 0, none⟩), .agg (u8s h).toArray] w (PinInPost w F S r mb h E) := by
  have KH := Lib.hid hh
  have PO := Lib.hid (pin_ok' hS.pok)
  have HS := Lib.hid hS
  have hrow := hS.row
  clear hS hh
  go_enter Tryd.func22, Tryd.ntmps22
  go_wp2_with (first
    | ((with_reducible refine at_slot 3 ?_); (refine arm_box (o := ⟨some 3, _, _, _, _, _⟩) rfl _ _ rfl (u8s h) rfl ?_); intro X v1 Xe hX nX; try simp only [Act.put, List.setIfInBounds_toArray, List.set_cons_zero, List.set_cons_succ]; refine fpause ?_; try simp only [Act.put, List.setIfInBounds_toArray, List.set_cons_zero, List.set_cons_succ]))
  have hrow1 : Row v1 S 67 (pcs r mb pin) := hrow.old nX.below
  refine fgo ?_
  go_wp2_with (first
    | ((with_reducible refine at_slot 6 ?_); (refine arm_load (o := ⟨some 6, _, _, _, _, _⟩) rfl _ _ rfl X 0 rfl (u8s h) ((Has.refl _).range hX) (szH KH.out) ?_); try simp only [Act.put, List.setIfInBounds_toArray, List.set_cons_zero, List.set_cons_succ])
    | ((with_reducible refine arm_store (o := ⟨none, .store 29 _ _, _, _, _, _⟩) rfl _ _ _ rfl S 2 rfl (u8s h) rfl _ _ (hrow1) (fit_pin PO.out KH.out) (u8s_one _) (szH KH.out) ?_); intro y2 hy2 oy2 sy2; try simp only [Act.put, List.setIfInBounds_toArray, List.set_cons_zero, List.set_cons_succ])
    | ((with_reducible refine arm_storeV (o := ⟨none, .store 4 _ _, _, _, _, _⟩) rfl _ _ _ rfl S (34) rfl (.bool true) rfl rfl (by kernel_rfl) _ _ (hy2) (lay_pin_len PO.out KH.out) ?_); intro y3 hy3 oy3 sy3; try simp only [Act.put, List.setIfInBounds_toArray, List.set_cons_zero, List.set_cons_succ]))
  have hr3 : Row y3 S 67 (pcs r mb (some h)) := hy3.congr (lay_pin PO.out KH.out)
  have hA := HS.out.old nX.below
  have hc2 : Chg F v1 y2 := Chg.of_only oy2 hA.fS
  have hc3 : Chg F y2 y3 := Chg.of_only oy3 hA.fS
  have hck : ∀ k, k < v1.heap.size → k ≠ S → y3.heap[k]? = v1.heap[k]? := fun k hk hn => (oy3.block k (Nat.lt_of_lt_of_le hk oy2.size) hn).trans (oy2.block k hk hn)
  have hA3 : SAt y3 F S r mb (some h) E := ⟨hr3, hA.map.of_block (hck _ hA.map.lt (fun e => S_ne_m hA e.symm)), fun p hp => (hA.st p hp).of_block (hck _ (hA.st p hp).lt (st_ne_S hA hp)), hA.ok, fun p hp => by cases hp; exact KH.out, hA.fS, hA.fm, hA.fE, hA.lies.mono (Nat.le_trans oy2.size oy3.size)⟩
  go_end0
  exact ⟨rfl, hA3, ((Chg.of_below F nX.below).step hc2).step hc3⟩
structure SPinPost (w : World) (F : Nat → Prop) (S r mb : Nat) (pin : Option (List Nat)) (E : Ents) (v : Bool) (e : Ending) (w' : World) : Prop where
  ret : e = .returned (.bool v)
  at_ : SAt w' F S r mb pin E
  chg : Chg F w w'
set_option maxHeartbeats 4000000 in
set_option maxRecDepth 100000 in
theorem spin_some (F : Nat → Prop) (S r mb : Nat) (pin : Option (List Nat)) (E : Ents) (x : Sta) (b : Nat) (w : World) (hS : SAt w F S r mb pin E) (hx : (x, b) ∈ E) :
    Calls Tryd.prog 8 #[.pointer (some ⟨S, 0, none⟩), .agg (u8s (digS x)).toArray] w (SPinPost w F S r mb (some (digS x)) E true) := by
  have HV : Hid ((if true = true then Value.tuple #[((Km.look (E.map entD) (digS x)).map ptrV).getD (.pointer none), .bool (Km.look (E.map entD) (digS x)).isSome] else ((Km.look (E.map entD) (digS x)).map ptrV).getD (.pointer none)) = .tuple #[.pointer (some ⟨b, 0, none⟩), .bool true]) := Lib.hid (by rw [look_ent (ent_nodup hS) hx]; rfl)
  have hrow := hS.row
  have hmap := hS.map
  have KH := Lib.hid (digS_ok x)
  clear hx
  have HH : Hid (hashOk (digS x)) := Lib.hid KH.out.len
  have CP := Lib.hid (fun w0 a => spinIn_any F S r mb pin E (digS x) w0 a KH.out)
  go_enter Tryd.func8, Tryd.ntmps8
  have bel0 : Chg (fun _ => False) w w := Chg.refl _ _
  go_wp2_with (first
    | ((with_reducible refine at_slot 3 ?_); (refine arm_box (o := ⟨some 3, _, _, _, _, _⟩) rfl _ _ rfl (u8s (digS x)) rfl ?_); intro X v1 Xe hv1 nv1; try simp only [Act.put, List.setIfInBounds_toArray, List.set_cons_zero, List.set_cons_succ]))
  have hbv1 := nv1.below
  have rrv1 : Row v1 X 29 (u8s (digS x)) := hv1
  have geX : w.heap.size ≤ X := by have := Xe.out; have := bel0.size; omega
  have lXx : w.heap.size ≤ X := by have := Xe.out; omega
  clear hv1 nv1 Xe
  have S_2 : Row v1 S 67 (pcs r mb pin) := hrow.old hbv1
  have M_2 : PMap v1 mb E := hmap.old hbv1
  have A_2 : SAt v1 F S r mb pin E := hS.old hbv1
  have bel_2 : Chg (fun _ => False) w v1 := bel0.old hbv1
  clear hrow hmap hS bel0 hbv1
  refine wp_region_held (S := fun w' => Row w' S 67 (pcs r mb pin) ∧ PMap w' mb E ∧ Row w' X 29 (u8s (digS x)) ∧ True) (by kernel_rfl) ?_
  change wpAnyH _ _ _ _ _ _ _ _ v1.drew
  have hd3 : Below v1.heap.size v1 v1.drew := (Below.refl _ _).drew
  have S_4 : Row v1.drew S 67 (pcs r mb pin) := S_2.old hd3
  have M_4 : PMap v1.drew mb E := M_2.old hd3
  have A_4 : SAt v1.drew F S r mb pin E := A_2.old hd3
  have X_4 : Row v1.drew X 29 (u8s (digS x)) := rrv1.old hd3
  have bel_4 : Chg (fun _ => False) w v1.drew := bel_2.old hd3
  clear S_2 M_2 A_2 rrv1 bel_2 hd3
  generalize v1.drew = yz3 at S_4 M_4 A_4 X_4 bel_4 ⊢
  refine h_take 0 (.pointer (some ⟨S, 0, none⟩)) rfl 8 rfl (by kernel_rfl) (by kernel_rfl) (by kernel_rfl) (by kernel_rfl) (fun _ _ _ h => h) (fun w' _ => by kernel_rfl) ⟨S_4, M_4, X_4, trivial⟩ ?_
  simp only [Act.put, List.setIfInBounds_toArray, List.set_cons_zero, List.set_cons_succ]
  refine h_take 1 (.pointer (some ⟨S, 0, none⟩)) rfl 9 rfl (by kernel_rfl) (by kernel_rfl) (by kernel_rfl) (by kernel_rfl) (fun _ _ _ h => h) (fun w' _ => by kernel_rfl) ⟨S_4, M_4, X_4, trivial⟩ ?_
  simp only [Act.put, List.setIfInBounds_toArray, List.set_cons_zero, List.set_cons_succ]
  refine h_take 2 (.pointer (some ⟨S, 1, none⟩)) rfl 10 rfl (by kernel_rfl) (by kernel_rfl) (by kernel_rfl) (by kernel_rfl) (fun _ _ _ h => h) (fun w' _ => by kernel_rfl) ⟨S_4, M_4, X_4, trivial⟩ ?_
  simp only [Act.put, List.setIfInBounds_toArray, List.set_cons_zero, List.set_cons_succ]
  refine h_take 3 (.map (some mb)) rfl 11 rfl (by kernel_rfl) (by kernel_rfl) (by kernel_rfl) (by kernel_rfl) (fun _ _ _ h => h) (fun w' hw => run_op_load1 _ _ rfl (.map 29 71) und_map rfl ⟨S, 1, none⟩ rfl (.map (some mb)) (hw.1.cell (i := 1) rfl)) ⟨S_4, M_4, X_4, trivial⟩ ?_
  simp only [Act.put, List.setIfInBounds_toArray, List.set_cons_zero, List.set_cons_succ]
  refine h_take 4 (.agg (u8s (digS x)).toArray) rfl 12 rfl (by kernel_rfl) (by kernel_rfl) (by kernel_rfl) (by kernel_rfl) (fun _ _ _ h => h) (fun w' hw => run_op_load _ _ rfl X (0) rfl (u8s (digS x)) (((Has.refl _)).range hw.2.2.1) ((szH KH.out))) ⟨S_4, M_4, X_4, trivial⟩ ?_
  simp only [Act.put, List.setIfInBounds_toArray, List.set_cons_zero, List.set_cons_succ]
  refine h_take 5 (.tuple #[.pointer (some ⟨b, 0, none⟩), .bool true]) rfl 13 rfl (by kernel_rfl) (by kernel_rfl) (by kernel_rfl) (by kernel_rfl) (fun _ _ _ h => h) (fun w' hw => by rw [← HV.out]; exact run_op_lookupK _ _ _ true rfl rfl (digS x) HH.out rfl hw.2.1 hash_keys und_map _ (zero_ptr _)) ⟨S_4, M_4, X_4, trivial⟩ ?_
  simp only [Act.put, List.setIfInBounds_toArray, List.set_cons_zero, List.set_cons_succ]
  refine h_take 6 (.tuple #[.pointer (some ⟨b, 0, none⟩), .bool true]) rfl 7 rfl (by kernel_rfl) (by kernel_rfl) (by kernel_rfl) (by kernel_rfl) (fun _ _ _ h => h) (fun w' _ => by kernel_rfl) ⟨S_4, M_4, X_4, trivial⟩ ?_
  simp only [Act.put, List.setIfInBounds_toArray, List.set_cons_zero, List.set_cons_succ]
  refine h_take 7 (.pointer (some ⟨b, 0, none⟩)) rfl 14 rfl (by kernel_rfl) (by kernel_rfl) (by kernel_rfl) (by kernel_rfl) (fun _ _ _ h => h) (fun w' _ => by kernel_rfl) ⟨S_4, M_4, X_4, trivial⟩ ?_
  simp only [Act.put, List.setIfInBounds_toArray, List.set_cons_zero, List.set_cons_succ]
  refine h_take 8 (.bool true) rfl 15 rfl (by kernel_rfl) (by kernel_rfl) (by kernel_rfl) (by kernel_rfl) (fun _ _ _ h => h) (fun w' _ => by kernel_rfl) ⟨S_4, M_4, X_4, trivial⟩ ?_
  simp only [Act.put, List.setIfInBounds_toArray, List.set_cons_zero, List.set_cons_succ]
  refine h_take 9 (.pointer (some ⟨b, 0, none⟩)) rfl 5 rfl (by kernel_rfl) (by kernel_rfl) (by kernel_rfl) (by kernel_rfl) (fun _ _ _ h => h) (fun w' _ => by kernel_rfl) ⟨S_4, M_4, X_4, trivial⟩ ?_
  simp only [Act.put, List.setIfInBounds_toArray, List.set_cons_zero, List.set_cons_succ]
  refine h_take 10 (.bool true) rfl 6 rfl (by kernel_rfl) (by kernel_rfl) (by kernel_rfl) (by kernel_rfl) (fun _ _ _ h => h) (fun w' _ => by kernel_rfl) ⟨S_4, M_4, X_4, trivial⟩ ?_
  simp only [Act.put, List.setIfInBounds_toArray, List.set_cons_zero, List.set_cons_succ]
  refine wpAnyH_done (by kernel_rfl) ?_ _
  go_wp2_with (first
    | ((with_reducible refine at_slot 18 ?_); (refine arm_load (o := ⟨some 18, _, _, _, _, _⟩) rfl _ _ rfl X 0 rfl (u8s (digS x)) ((Has.refl _).range X_4) (szH KH.out) ?_); try simp only [Act.put, List.setIfInBounds_toArray, List.set_cons_zero, List.set_cons_succ]))
  refine (CP.out _ A_4).mono ?_
  rintro e y ⟨rfl, hA, hc⟩
  go_wp2_with fail
  go_ret
  exact ⟨rfl, hA, (bel_4.more (fun k hk => hk.elim)).step hc⟩
set_option maxHeartbeats 4000000 in
set_option maxRecDepth 100000 in
theorem spin_none (F : Nat → Prop) (S r mb : Nat) (pin : Option (List Nat)) (E : Ents) (h : List Nat) (hh : H32 h) (w : World) (hS : SAt w F S r mb pin E) (hn : ∀ p ∈ E, digS p.1 ≠ h) :
    Calls Tryd.prog 8 #[.pointer (some ⟨S, 0, none⟩), .agg (u8s (h)).toArray] w (SPinPost w F S r mb pin E false) := by
  have HV : Hid ((if true = true then Value.tuple #[((Km.look (E.map entD) (h)).map ptrV).getD (.pointer none), .bool (Km.look (E.map entD) (h)).isSome] else ((Km.look (E.map entD) (h)).map ptrV).getD (.pointer none)) = .tuple #[.pointer none, .bool false]) := Lib.hid (by rw [look_no hn]; rfl)
  have hrow := hS.row
  have hmap := hS.map
  have KH := Lib.hid hh
  clear hn hh
  have HH : Hid (hashOk (h)) := Lib.hid KH.out.len
  have CP := Lib.hid (fun w0 a => spinIn_any F S r mb pin E (h) w0 a KH.out)
  go_enter Tryd.func8, Tryd.ntmps8
  have bel0 : Chg (fun _ => False) w w := Chg.refl _ _
  go_wp2_with (first
    | ((with_reducible refine at_slot 3 ?_); (refine arm_box (o := ⟨some 3, _, _, _, _, _⟩) rfl _ _ rfl (u8s (h)) rfl ?_); intro X v1 Xe hv1 nv1; try simp only [Act.put, List.setIfInBounds_toArray, List.set_cons_zero, List.set_cons_succ]))
  have hbv1 := nv1.below
  have rrv1 : Row v1 X 29 (u8s (h)) := hv1
  have geX : w.heap.size ≤ X := by have := Xe.out; have := bel0.size; omega
  have lXx : w.heap.size ≤ X := by have := Xe.out; omega
  clear hv1 nv1 Xe
  have S_2 : Row v1 S 67 (pcs r mb pin) := hrow.old hbv1
  have M_2 : PMap v1 mb E := hmap.old hbv1
  have A_2 : SAt v1 F S r mb pin E := hS.old hbv1
  have bel_2 : Chg (fun _ => False) w v1 := bel0.old hbv1
  clear hrow hmap hS bel0 hbv1
  refine wp_region_held (S := fun w' => Row w' S 67 (pcs r mb pin) ∧ PMap w' mb E ∧ Row w' X 29 (u8s (h)) ∧ True) (by kernel_rfl) ?_
  change wpAnyH _ _ _ _ _ _ _ _ v1.drew
  have hd3 : Below v1.heap.size v1 v1.drew := (Below.refl _ _).drew
  have S_4 : Row v1.drew S 67 (pcs r mb pin) := S_2.old hd3
  have M_4 : PMap v1.drew mb E := M_2.old hd3
  have A_4 : SAt v1.drew F S r mb pin E := A_2.old hd3
  have X_4 : Row v1.drew X 29 (u8s (h)) := rrv1.old hd3
  have bel_4 : Chg (fun _ => False) w v1.drew := bel_2.old hd3
  clear S_2 M_2 A_2 rrv1 bel_2 hd3
  generalize v1.drew = yz3 at S_4 M_4 A_4 X_4 bel_4 ⊢
  refine h_take 0 (.pointer (some ⟨S, 0, none⟩)) rfl 8 rfl (by kernel_rfl) (by kernel_rfl) (by kernel_rfl) (by kernel_rfl) (fun _ _ _ h => h) (fun w' _ => by kernel_rfl) ⟨S_4, M_4, X_4, trivial⟩ ?_
  simp only [Act.put, List.setIfInBounds_toArray, List.set_cons_zero, List.set_cons_succ]
  refine h_take 1 (.pointer (some ⟨S, 0, none⟩)) rfl 9 rfl (by kernel_rfl) (by kernel_rfl) (by kernel_rfl) (by kernel_rfl) (fun _ _ _ h => h) (fun w' _ => by kernel_rfl) ⟨S_4, M_4, X_4, trivial⟩ ?_
  simp only [Act.put, List.setIfInBounds_toArray, List.set_cons_zero, List.set_cons_succ]
  refine h_take 2 (.pointer (some ⟨S, 1, none⟩)) rfl 10 rfl (by kernel_rfl) (by kernel_rfl) (by kernel_rfl) (by kernel_rfl) (fun _ _ _ h => h) (fun w' _ => by kernel_rfl) ⟨S_4, M_4, X_4, trivial⟩ ?_
  simp only [Act.put, List.setIfInBounds_toArray, List.set_cons_zero, List.set_cons_succ]
  refine h_take 3 (.map (some mb)) rfl 11 rfl (by kernel_rfl) (by kernel_rfl) (by kernel_rfl) (by kernel_rfl) (fun _ _ _ h => h) (fun w' hw => run_op_load1 _ _ rfl (.map 29 71) und_map rfl ⟨S, 1, none⟩ rfl (.map (some mb)) (hw.1.cell (i := 1) rfl)) ⟨S_4, M_4, X_4, trivial⟩ ?_
  simp only [Act.put, List.setIfInBounds_toArray, List.set_cons_zero, List.set_cons_succ]
  refine h_take 4 (.agg (u8s (h)).toArray) rfl 12 rfl (by kernel_rfl) (by kernel_rfl) (by kernel_rfl) (by kernel_rfl) (fun _ _ _ h => h) (fun w' hw => run_op_load _ _ rfl X (0) rfl (u8s (h)) (((Has.refl _)).range hw.2.2.1) ((szH KH.out))) ⟨S_4, M_4, X_4, trivial⟩ ?_
  simp only [Act.put, List.setIfInBounds_toArray, List.set_cons_zero, List.set_cons_succ]
  refine h_take 5 (.tuple #[.pointer none, .bool false]) rfl 13 rfl (by kernel_rfl) (by kernel_rfl) (by kernel_rfl) (by kernel_rfl) (fun _ _ _ h => h) (fun w' hw => by rw [← HV.out]; exact run_op_lookupK _ _ _ true rfl rfl (h) HH.out rfl hw.2.1 hash_keys und_map _ (zero_ptr _)) ⟨S_4, M_4, X_4, trivial⟩ ?_
  simp only [Act.put, List.setIfInBounds_toArray, List.set_cons_zero, List.set_cons_succ]
  refine h_take 6 (.tuple #[.pointer none, .bool false]) rfl 7 rfl (by kernel_rfl) (by kernel_rfl) (by kernel_rfl) (by kernel_rfl) (fun _ _ _ h => h) (fun w' _ => by kernel_rfl) ⟨S_4, M_4, X_4, trivial⟩ ?_
  simp only [Act.put, List.setIfInBounds_toArray, List.set_cons_zero, List.set_cons_succ]
  refine h_take 7 (.pointer none) rfl 14 rfl (by kernel_rfl) (by kernel_rfl) (by kernel_rfl) (by kernel_rfl) (fun _ _ _ h => h) (fun w' _ => by kernel_rfl) ⟨S_4, M_4, X_4, trivial⟩ ?_
  simp only [Act.put, List.setIfInBounds_toArray, List.set_cons_zero, List.set_cons_succ]
  refine h_take 8 (.bool false) rfl 15 rfl (by kernel_rfl) (by kernel_rfl) (by kernel_rfl) (by kernel_rfl) (fun _ _ _ h => h) (fun w' _ => by kernel_rfl) ⟨S_4, M_4, X_4, trivial⟩ ?_
  simp only [Act.put, List.setIfInBounds_toArray, List.set_cons_zero, List.set_cons_succ]
  refine h_take 9 (.pointer none) rfl 5 rfl (by kernel_rfl) (by kernel_rfl) (by kernel_rfl) (by kernel_rfl) (fun _ _ _ h => h) (fun w' _ => by kernel_rfl) ⟨S_4, M_4, X_4, trivial⟩ ?_
  simp only [Act.put, List.setIfInBounds_toArray, List.set_cons_zero, List.set_cons_succ]
  refine h_take 10 (.bool false) rfl 6 rfl (by kernel_rfl) (by kernel_rfl) (by kernel_rfl) (by kernel_rfl) (fun _ _ _ h => h) (fun w' _ => by kernel_rfl) ⟨S_4, M_4, X_4, trivial⟩ ?_
  simp only [Act.put, List.setIfInBounds_toArray, List.set_cons_zero, List.set_cons_succ]
  refine wpAnyH_done (by kernel_rfl) ?_ _
  go_wp2_with fail
  go_ret
  exact ⟨rfl, A_4, bel_4.more (fun k hk => hk.elim)⟩
end Go.Proofs.YtnjmocobncncdaaDoor.So

/-
  The contract of the store's put. Over this seat's translation.
-/
namespace Go.Proofs.YtnjmocobncncdaaDoor.So
open Go.ChangeShapes Go.WideShapes Go.ChangeAt Go.RowKit Go.Proofs.YtnjmocobncncdaaDoor.Mem Go.Proofs.YtnjmocobncncdaaDoor.Bt Go.Proofs.YtnjmocobncncdaaDoor.Km
open Go.Proofs.YtnjmocobncncdaaDoor.Ep (H32 zh zh_ok Has h_len szH zH fitH allH one_app num32)
open Go.Proofs.YtnjmocobncncdaaDoor.Sl (Kind At bk)
open Go.Proofs.YtnjmocobncncdaaDoor.Sa (Sta scs digS digS_ok sz_sta h_drw h_lngth)
open Go.Proofs.YtnjmocobncncdaaDoor.Od (Ky kcs keyN keyN_ok kcs_len kcs_one kcmp kval zk z_key sz_key fitK allK built_key compare_anyD)
set_option linter.unusedVariables false
set_option linter.unusedSimpArgs false

def hasB (h : List Nat) (L : List Sta) : Bool := L.any fun y => decide (digS y = h)
theorem has_true {h : List Nat} {L : List Sta} : hasB h L = true ↔ has digS h L := by
  unfold hasB has
  simp
def putL (r : Nat) (pin : Option (List Nat)) (x : Sta) (L : List Sta) : List Sta × Option Sta := if hasB (digS x) L = true then (L, none) else less digS r pin (ins vK x L)
theorem ins_perm (x : Sta) : ∀ L : List Sta, (ins vK x L).Perm (x :: L)
  | [] => List.Perm.refl _
  | y :: L => by
    unfold ins
    split
    · exact ((ins_perm x L).cons y).trans (List.Perm.swap x y L)
    · exact List.Perm.refl _
theorem filter_erase : ∀ {L : List Sta}, (L.Pairwise fun a b => digS a ≠ digS b) → ∀ {i : Nat} (hi : i < L.length), (L.filter fun y => decide (digS y ≠ digS L[i])) = L.eraseIdx i
  | [], _, i, hi => by simp at hi
  | x :: L, h, 0, _ => by
    have h1 : ∀ z ∈ L, digS x ≠ digS z := fun z hz => List.rel_of_pairwise_cons h hz
    rw [List.eraseIdx_cons_zero, List.filter_cons_of_neg (by simp)]
    exact List.filter_eq_self.2 fun z hz => decide_eq_true (fun e => h1 z hz (by simpa using e.symm))
  | x :: L, h, i + 1, hi => by
    have h1 : ∀ z ∈ L, digS x ≠ digS z := fun z hz => List.rel_of_pairwise_cons h hz
    have hi' : i < L.length := by simpa using hi
    rw [List.eraseIdx_cons_succ, List.filter_cons_of_pos (by simpa using h1 _ (List.getElem_mem hi'))]
    congr 1
    exact filter_erase h.of_cons hi'
theorem nodup_pair {L : List Sta} (h : (L.map digS).Nodup) : L.Pairwise fun a b => digS a ≠ digS b := List.pairwise_map.1 h
theorem ents_pair {E : Ents} {L : List Sta} (hn : (E.map fun p => digS p.1).Nodup) (hE : (E.map Prod.fst).Perm L) : L.Pairwise fun a b => digS a ≠ digS b := by
  refine nodup_pair ((hE.map digS).nodup_iff.1 ?_)
  rw [List.map_map]
  exact hn
theorem ent_filter (E : Ents) (h : List Nat) : delK (E.map entD) h = (E.filter fun p : Sta × Nat => decide (digS p.1 ≠ h)).map entD := by
  unfold delK
  rw [List.filter_map]
  rfl
theorem ent_put {E : Ents} {x : Sta} {b : Nat} (hn : Km.look (E.map entD) (digS x) = none) : putK (E.map entD) (digS x) b = (E ++ [(x, b)]).map entD := by
  unfold putK
  rw [hn, List.map_append]
  rfl
theorem fst_filter {E : Ents} {L : List Sta} (h : List Nat) (hE : (E.map Prod.fst).Perm L) : ((E.filter fun p : Sta × Nat => decide (digS p.1 ≠ h)).map Prod.fst).Perm (L.filter fun y => decide (digS y ≠ h)) := by
  have := hE.filter fun y => decide (digS y ≠ h)
  rw [List.filter_map] at this
  exact this
theorem no_has {E : Ents} {L : List Sta} {h : List Nat} (hE : (E.map Prod.fst).Perm L) (hn : ¬ hasB h L = true) : ∀ p ∈ E, digS p.1 ≠ h := fun p hp e => hn (has_true.2 ⟨p.1, hE.mem_iff.1 (List.mem_map.2 ⟨p, hp, rfl⟩), e⟩)
theorem in_has {E : Ents} {L : List Sta} {h : List Nat} (hE : (E.map Prod.fst).Perm L) (hh : hasB h L = true) : ∃ p ∈ E, digS p.1 = h := by
  obtain ⟨y, hy, e⟩ := has_true.1 hh
  obtain ⟨p, hp, rfl⟩ := List.mem_map.1 (hE.mem_iff.2 hy)
  exact ⟨p, hp, e⟩
/-- Of two whose keys are the same the digests are. -/
theorem vK_dig {x y : Sta} (kx : x.Ok) (ky : y.Ok) (e : vK y = vK x) : digS y = digS x := congrArg Ky.hash (Od.kval_inj (keyN_ok ky) (keyN_ok kx) e)
theorem laid_new {r : Nat} {pin : Option (List Nat)} {L : List Sta} (k : SOk vK digS r pin L) {x : Sta} (hn : ¬ has digS (digS x) L) (kx : x.Ok) (kL : ∀ y ∈ L, y.Ok) : SLaid vK digS r pin (ins vK x L) :=
  ⟨ins_rise k.up fun y hy e => hn ⟨y, hy, vK_dig kx (kL y hy) e⟩, dg_ins k.dg hn, by rw [ins_len]; have := k.len; omega, k.two, fun p hp => by obtain ⟨z, hz, e⟩ := k.pin p hp; exact ⟨z, ins_mem.2 (.inr hz), e⟩⟩
theorem put_in {r : Nat} {pin : Option (List Nat)} {x : Sta} {L : List Sta} (h : hasB (digS x) L = true) : putL r pin x L = (L, none) := if_pos h
theorem put_room {r : Nat} {pin : Option (List Nat)} {x : Sta} {L : List Sta} (h : ¬ hasB (digS x) L = true) (hl : (ins vK x L).length ≤ r) : putL r pin x L = (ins vK x L, none) := by
  unfold putL
  rw [if_neg h, less_room hl]
theorem put_full {r : Nat} {pin : Option (List Nat)} {x : Sta} {L : List Sta} (h : ¬ hasB (digS x) L = true) (hl : ¬ (ins vK x L).length ≤ r) {g : Sta} (hg : (ins vK x L)[out digS pin (ins vK x L)]? = some g) : putL r pin x L = ((ins vK x L).eraseIdx (out digS pin (ins vK x L)), some g) := by
  unfold putL less
  rw [if_neg h, if_neg hl, hg]
theorem out_if {pin : Option (List Nat)} {L : List Sta} {x0 x1 g : Sta} (h0 : L[0]? = some x0) (h1 : L[1]? = some x1) (hg : L[out digS pin L]? = some g) : (if pin = some (digS x0) then digS x1 else digS x0) = digS g := by
  have e0 : (L.map digS)[0]? = some (digS x0) := by rw [List.getElem?_map, h0]; rfl
  unfold out at hg
  rw [e0] at hg
  by_cases c : pin = some (digS x0)
  · rw [if_pos c] at hg ⊢
    rw [h1] at hg
    rw [Option.some.inj hg]
  · rw [if_neg c] at hg ⊢
    rw [h0] at hg
    rw [Option.some.inj hg]
structure SPutPost (w : World) (F : Nat → Prop) (S r mb : Nat) (pin : Option (List Nat)) (q : List Sta × Option Sta) (e : Ending) (w' : World) : Prop where
  ret : e = .returned (.tuple #[.agg (u8s ((q.2.map digS).getD zh)).toArray, .bool q.2.isSome])
  at_ : ∃ F' E', SAt w' F' S r mb pin E' ∧ (E'.map Prod.fst).Perm q.1 ∧ Grew F F' w.heap.size
  chg : Chg F w w'
set_option maxHeartbeats 4000000 in
set_option maxRecDepth 100000 in
theorem sput_any (F : Nat → Prop) (S r mb : Nat) (pin : Option (List Nat)) (E : Ents) (L : List Sta) (x : Sta) (w : World) (hS : SAt w F S r mb pin E) (kx : x.Ok) (hL : Rise vK L) (hE : (E.map Prod.fst).Perm L) (kL : ∀ y ∈ L, y.Ok) (hl : L.length ≤ r) (hr : 2 ≤ r ∧ r ≤ 100) :
    Calls Tryd.prog 23 #[.pointer (some ⟨S, 0, none⟩), .agg (u8s (digS x)).toArray, .agg (scs x).toArray] w (SPutPost w F S r mb pin (putL r pin x L)) := by
  have KH := Lib.hid (digS_ok x)
  have HH : Hid (hashOk (digS x)) := Lib.hid (digS_ok x).len
  have KX := Lib.hid kx
  have hrow := hS.row
  have hmap := hS.map
  by_cases hb : hasB (digS x) L = true
  · obtain ⟨⟨x', b⟩, hx, hd⟩ := in_has hE hb
    have HV : Hid ((if true = true then Value.tuple #[((Km.look (E.map entD) (digS x)).map ptrV).getD (.pointer none), .bool (Km.look (E.map entD) (digS x)).isSome] else ((Km.look (E.map entD) (digS x)).map ptrV).getD (.pointer none)) = .tuple #[.pointer (some ⟨b, 0, none⟩), .bool true]) := Lib.hid (by rw [(show Km.look (E.map entD) (digS x) = some b by rw [← hd]; exact look_ent (ent_nodup hS) hx)]; rfl)
    have HQ := Lib.hid (put_in (r := r) (pin := pin) hb)
    have HE := Lib.hid hE
    rw [HQ.out]
    clear hb hL hE kL hl hr hx hd kx
    have LI := Lib.hid hS.lies
    go_enter Tryd.func23, Tryd.ntmps23
    have bel0 : Chg (fun _ => False) w w := Chg.refl _ _
    go_wp2_with (first
      | ((with_reducible refine at_slot 4 ?_); (refine arm_box (o := ⟨some 4, _, _, _, _, _⟩) rfl _ _ rfl (u8s (digS x)) rfl ?_); intro H v1 He hv1 nv1; try simp only [Act.put, List.setIfInBounds_toArray, List.set_cons_zero, List.set_cons_succ])
      | ((with_reducible refine at_slot 5 ?_); (refine arm_box (o := ⟨some 5, _, _, _, _, _⟩) rfl _ _ rfl (scs x) rfl ?_); intro X v2 Xe hv2 nv2; try simp only [Act.put, List.setIfInBounds_toArray, List.set_cons_zero, List.set_cons_succ])
      | ((with_reducible refine at_slot 6 ?_); (refine arm_alloc (o := ⟨some 6, _, _, _, _, _⟩) rfl _ rfl (u8s zh) zH ?_); intro R v3 Re hv3 nv3; try simp only [Act.put, List.setIfInBounds_toArray, List.set_cons_zero, List.set_cons_succ]))
    have hbv1 := nv1.below
    have rrv1 : Row v1 H 29 (u8s (digS x)) := hv1
    have hbv2 := nv2.below
    have rrv2 : Row v2 X 41 (scs x) := hv2
    have hbv3 := nv3.below
    have rrv3 : Row v3 R 29 (u8s zh) := hv3
    have geH : w.heap.size ≤ H := by have := He.out; have := bel0.size; omega
    have lHx : w.heap.size ≤ H := by have := He.out; omega
    clear hv1 nv1 He
    have S_4 : Row v1 S 67 (pcs r mb pin) := hrow.old hbv1
    have M_4 : PMap v1 mb E := hmap.old hbv1
    have A_4 : SAt v1 F S r mb pin E := hS.old hbv1
    have bel_4 : Chg (fun _ => False) w v1 := bel0.old hbv1
    clear hrow hmap hS bel0 hbv1
    have geX : w.heap.size ≤ X := by have := Xe.out; have := bel_4.size; omega
    have ltHX : H < X := by have := Xe.out; have := rrv1.lt; omega
    have lXx : v1.heap.size ≤ X := by have := Xe.out; omega
    clear hv2 nv2 Xe
    have S_5 : Row v2 S 67 (pcs r mb pin) := S_4.old hbv2
    have M_5 : PMap v2 mb E := M_4.old hbv2
    have A_5 : SAt v2 F S r mb pin E := A_4.old hbv2
    have H_5 : Row v2 H 29 (u8s (digS x)) := rrv1.old hbv2
    have bel_5 : Chg (fun _ => False) w v2 := bel_4.old hbv2
    clear S_4 M_4 A_4 rrv1 bel_4 hbv2
    have geR : w.heap.size ≤ R := by have := Re.out; have := bel_5.size; omega
    have ltXR : X < R := by have := Re.out; have := rrv2.lt; omega
    have lRx : v2.heap.size ≤ R := by have := Re.out; omega
    clear hv3 nv3 Re
    have S_6 : Row v3 S 67 (pcs r mb pin) := S_5.old hbv3
    have M_6 : PMap v3 mb E := M_5.old hbv3
    have A_6 : SAt v3 F S r mb pin E := A_5.old hbv3
    have H_6 : Row v3 H 29 (u8s (digS x)) := H_5.old hbv3
    have X_6 : Row v3 X 41 (scs x) := rrv2.old hbv3
    have bel_6 : Chg (fun _ => False) w v3 := bel_5.old hbv3
    clear S_5 M_5 A_5 H_5 rrv2 bel_5 hbv3
    refine wp_region_held (S := fun w' => Row w' S 67 (pcs r mb pin) ∧ PMap w' mb E ∧ Row w' H 29 (u8s (digS x)) ∧ True) (by kernel_rfl) ?_
    change wpAnyH _ _ _ _ _ _ _ _ v3.drew
    have hd7 : Below v3.heap.size v3 v3.drew := (Below.refl _ _).drew
    have S_8 : Row v3.drew S 67 (pcs r mb pin) := S_6.old hd7
    have M_8 : PMap v3.drew mb E := M_6.old hd7
    have A_8 : SAt v3.drew F S r mb pin E := A_6.old hd7
    have H_8 : Row v3.drew H 29 (u8s (digS x)) := H_6.old hd7
    have X_8 : Row v3.drew X 41 (scs x) := X_6.old hd7
    have R_8 : Row v3.drew R 29 (u8s zh) := rrv3.old hd7
    have bel_8 : Chg (fun _ => False) w v3.drew := bel_6.old hd7
    clear S_6 M_6 A_6 H_6 X_6 rrv3 bel_6 hd7
    generalize v3.drew = yz7 at S_8 M_8 A_8 H_8 X_8 R_8 bel_8 ⊢
    refine h_take 0 (.pointer (some ⟨S, 0, none⟩)) rfl 12 rfl (by kernel_rfl) (by kernel_rfl) (by kernel_rfl) (by kernel_rfl) (fun _ _ _ h => h) (fun w' _ => by kernel_rfl) ⟨S_8, M_8, H_8, trivial⟩ ?_
    simp only [Act.put, List.setIfInBounds_toArray, List.set_cons_zero, List.set_cons_succ]
    refine h_take 1 (.pointer (some ⟨S, 0, none⟩)) rfl 13 rfl (by kernel_rfl) (by kernel_rfl) (by kernel_rfl) (by kernel_rfl) (fun _ _ _ h => h) (fun w' _ => by kernel_rfl) ⟨S_8, M_8, H_8, trivial⟩ ?_
    simp only [Act.put, List.setIfInBounds_toArray, List.set_cons_zero, List.set_cons_succ]
    refine h_take 2 (.pointer (some ⟨S, 1, none⟩)) rfl 14 rfl (by kernel_rfl) (by kernel_rfl) (by kernel_rfl) (by kernel_rfl) (fun _ _ _ h => h) (fun w' _ => by kernel_rfl) ⟨S_8, M_8, H_8, trivial⟩ ?_
    simp only [Act.put, List.setIfInBounds_toArray, List.set_cons_zero, List.set_cons_succ]
    refine h_take 3 (.map (some mb)) rfl 15 rfl (by kernel_rfl) (by kernel_rfl) (by kernel_rfl) (by kernel_rfl) (fun _ _ _ h => h) (fun w' hw => run_op_load1 _ _ rfl (.map 29 71) und_map rfl ⟨S, 1, none⟩ rfl (.map (some mb)) (hw.1.cell (i := 1) rfl)) ⟨S_8, M_8, H_8, trivial⟩ ?_
    simp only [Act.put, List.setIfInBounds_toArray, List.set_cons_zero, List.set_cons_succ]
    refine h_take 4 (.agg (u8s (digS x)).toArray) rfl 16 rfl (by kernel_rfl) (by kernel_rfl) (by kernel_rfl) (by kernel_rfl) (fun _ _ _ h => h) (fun w' hw => run_op_load _ _ rfl H (0) rfl (u8s (digS x)) (((Has.refl _)).range hw.2.2.1) ((szH KH.out))) ⟨S_8, M_8, H_8, trivial⟩ ?_
    simp only [Act.put, List.setIfInBounds_toArray, List.set_cons_zero, List.set_cons_succ]
    refine h_take 5 (.tuple #[.pointer (some ⟨b, 0, none⟩), .bool true]) rfl 17 rfl (by kernel_rfl) (by kernel_rfl) (by kernel_rfl) (by kernel_rfl) (fun _ _ _ h => h) (fun w' hw => by rw [← HV.out]; exact run_op_lookupK _ _ _ true rfl rfl (digS x) HH.out rfl hw.2.1 hash_keys und_map _ (zero_ptr _)) ⟨S_8, M_8, H_8, trivial⟩ ?_
    simp only [Act.put, List.setIfInBounds_toArray, List.set_cons_zero, List.set_cons_succ]
    refine h_take 6 (.tuple #[.pointer (some ⟨b, 0, none⟩), .bool true]) rfl 11 rfl (by kernel_rfl) (by kernel_rfl) (by kernel_rfl) (by kernel_rfl) (fun _ _ _ h => h) (fun w' _ => by kernel_rfl) ⟨S_8, M_8, H_8, trivial⟩ ?_
    simp only [Act.put, List.setIfInBounds_toArray, List.set_cons_zero, List.set_cons_succ]
    refine h_take 7 (.pointer (some ⟨b, 0, none⟩)) rfl 18 rfl (by kernel_rfl) (by kernel_rfl) (by kernel_rfl) (by kernel_rfl) (fun _ _ _ h => h) (fun w' _ => by kernel_rfl) ⟨S_8, M_8, H_8, trivial⟩ ?_
    simp only [Act.put, List.setIfInBounds_toArray, List.set_cons_zero, List.set_cons_succ]
    refine h_take 8 (.bool true) rfl 19 rfl (by kernel_rfl) (by kernel_rfl) (by kernel_rfl) (by kernel_rfl) (fun _ _ _ h => h) (fun w' _ => by kernel_rfl) ⟨S_8, M_8, H_8, trivial⟩ ?_
    simp only [Act.put, List.setIfInBounds_toArray, List.set_cons_zero, List.set_cons_succ]
    refine h_take 9 (.pointer (some ⟨b, 0, none⟩)) rfl 8 rfl (by kernel_rfl) (by kernel_rfl) (by kernel_rfl) (by kernel_rfl) (fun _ _ _ h => h) (fun w' _ => by kernel_rfl) ⟨S_8, M_8, H_8, trivial⟩ ?_
    simp only [Act.put, List.setIfInBounds_toArray, List.set_cons_zero, List.set_cons_succ]
    refine h_take 10 (.bool true) rfl 9 rfl (by kernel_rfl) (by kernel_rfl) (by kernel_rfl) (by kernel_rfl) (fun _ _ _ h => h) (fun w' _ => by kernel_rfl) ⟨S_8, M_8, H_8, trivial⟩ ?_
    simp only [Act.put, List.setIfInBounds_toArray, List.set_cons_zero, List.set_cons_succ]
    refine wpAnyH_done (by kernel_rfl) ?_ _
    go_wp2_with (first
      | ((with_reducible refine at_slot 21 ?_); (refine arm_build (o := ⟨some 21, _, _, _, _, _⟩) rfl _ _ rfl (u8s zh) (by kernel_rfl) ?_); try simp only [Act.put, List.setIfInBounds_toArray, List.set_cons_zero, List.set_cons_succ])
      | ((with_reducible refine arm_store (o := ⟨none, _, _, _, _, _⟩) rfl _ _ _ rfl R 0 rfl (u8s zh) rfl _ _ (R_8) (fitH zh_ok) (u8s_one _) (szH zh_ok) ?_); intro y8 hy8 oy8 sy8; try simp only [Act.put, List.setIfInBounds_toArray, List.set_cons_zero, List.set_cons_succ]))
    have hc8 := bel_8.new oy8 geR
    have hA8 := A_8.chg (Chg.of_only (F := fun k => k = R) oy8 rfl) (fun k hk hf => by subst hk; exact Nat.lt_irrefl _ (Nat.lt_of_lt_of_le (LI.out _ hf) geR))
    exact bodyPost_ret (result_row2 (p := 6) (u := 7) (ty := 29) (t := 29) (by kernel_rfl) _ _ R (u8s zh) (.bool false) rfl rfl (hy8.congr (allH zh_ok)) (szH zh_ok)) rfl ⟨rfl, ⟨F, E, hA8, HE.out, Grew.refl _ _⟩, hc8.more (fun k hk => hk.elim)⟩
  · have hno := no_has hE hb
    have hlk := look_no hno
    have HV : Hid ((if true = true then Value.tuple #[((Km.look (E.map entD) (digS x)).map ptrV).getD (.pointer none), .bool (Km.look (E.map entD) (digS x)).isSome] else ((Km.look (E.map entD) (digS x)).map ptrV).getD (.pointer none)) = .tuple #[.pointer none, .bool false]) := Lib.hid (by rw [hlk]; rfl)
    have HPE := Lib.hid (fun b : Nat => ent_put (x := x) (b := b) hlk)
    have hp1 := ins_perm x L
    have hil := ins_len (v := vK) x L
    have hnx : ∀ y ∈ L, vK y ≠ vK x := fun y hy e => hb (has_true.2 ⟨y, hy, vK_dig kx (kL y hy) e⟩)
    have hL1 : Rise vK (ins vK x L) := ins_rise hL hnx
    have HE1 : Hid (∀ X, ((E ++ [(x, X)]).map Prod.fst).Perm (ins vK x L)) := Lib.hid fun X => by
      rw [List.map_append]
      exact ((hE.append_right _).trans List.perm_append_comm).trans hp1.symm
    have HN1 : Hid (∀ X, ((E ++ [(x, X)]).map entD).length = L.length + 1) := Lib.hid fun X => by
      rw [List.length_map, List.length_append, ← List.length_map (f := Prod.fst), hE.length_eq]; rfl
    have hst := hS.st
    have NS : Hid (∀ p ∈ E, p.2 ≠ mb) := Lib.hid fun p hp => st_ne_m hS hp
    have OK := Lib.hid hS.ok
    have HP := Lib.hid hS.pok
    have fS := hS.fS
    have fm := hS.fm
    have fE := Lib.hid hS.fE
    have LI := Lib.hid hS.lies
    have nSm := S_ne_m hS
    clear hS hno hlk hp1 hnx
    by_cases hf : (ins vK x L).length ≤ r
    · have HQ := Lib.hid (put_room (pin := pin) hb hf)
      rw [HQ.out]
      have d1 : decide (((L.length + 1 : Nat) : Int) ≤ (r : Int)) = true := decide_eq_true (by omega)
      clear hb hf hil hL1 hL hE kL hl hr kx
      go_enter Tryd.func23, Tryd.ntmps23
      have bel0 : Chg F w w := Chg.refl _ _
      go_wp2_with (first
        | ((with_reducible refine at_slot 4 ?_); (refine arm_box (o := ⟨some 4, _, _, _, _, _⟩) rfl _ _ rfl (u8s (digS x)) rfl ?_); intro H v1 He hv1 nv1; try simp only [Act.put, List.setIfInBounds_toArray, List.set_cons_zero, List.set_cons_succ])
        | ((with_reducible refine at_slot 5 ?_); (refine arm_box (o := ⟨some 5, _, _, _, _, _⟩) rfl _ _ rfl (scs x) rfl ?_); intro X v2 Xe hv2 nv2; try simp only [Act.put, List.setIfInBounds_toArray, List.set_cons_zero, List.set_cons_succ])
        | ((with_reducible refine at_slot 6 ?_); (refine arm_alloc (o := ⟨some 6, _, _, _, _, _⟩) rfl _ rfl (u8s zh) zH ?_); intro R v3 Re hv3 nv3; try simp only [Act.put, List.setIfInBounds_toArray, List.set_cons_zero, List.set_cons_succ]))
      have hbv1 := nv1.below
      have rrv1 : Row v1 H 29 (u8s (digS x)) := hv1
      have hbv2 := nv2.below
      have rrv2 : Row v2 X 41 (scs x) := hv2
      have hbv3 := nv3.below
      have rrv3 : Row v3 R 29 (u8s zh) := hv3
      have geH : w.heap.size ≤ H := by have := He.out; have := bel0.size; omega
      have lHx : w.heap.size ≤ H := by have := He.out; omega
      clear hv1 nv1 He
      have S_4 : Row v1 S 67 (pcs r mb pin) := hrow.old hbv1
      have M_4 : PMap v1 mb E := hmap.old hbv1
      have T_4 : ∀ p ∈ E, Row v1 p.2 41 (scs p.1) := fun p hp => (hst p hp).old hbv1
      have bel_4 : Chg F w v1 := bel0.old hbv1
      clear hrow hmap hst bel0 hbv1
      have geX : w.heap.size ≤ X := by have := Xe.out; have := bel_4.size; omega
      have ltHX : H < X := by have := Xe.out; have := rrv1.lt; omega
      have lXx : v1.heap.size ≤ X := by have := Xe.out; omega
      clear hv2 nv2 Xe
      have S_5 : Row v2 S 67 (pcs r mb pin) := S_4.old hbv2
      have M_5 : PMap v2 mb E := M_4.old hbv2
      have T_5 : ∀ p ∈ E, Row v2 p.2 41 (scs p.1) := fun p hp => (T_4 p hp).old hbv2
      have H_5 : Row v2 H 29 (u8s (digS x)) := rrv1.old hbv2
      have bel_5 : Chg F w v2 := bel_4.old hbv2
      clear S_4 M_4 T_4 rrv1 bel_4 hbv2
      have geR : w.heap.size ≤ R := by have := Re.out; have := bel_5.size; omega
      have ltXR : X < R := by have := Re.out; have := rrv2.lt; omega
      have lRx : v2.heap.size ≤ R := by have := Re.out; omega
      clear hv3 nv3 Re
      have S_6 : Row v3 S 67 (pcs r mb pin) := S_5.old hbv3
      have M_6 : PMap v3 mb E := M_5.old hbv3
      have T_6 : ∀ p ∈ E, Row v3 p.2 41 (scs p.1) := fun p hp => (T_5 p hp).old hbv3
      have H_6 : Row v3 H 29 (u8s (digS x)) := H_5.old hbv3
      have X_6 : Row v3 X 41 (scs x) := rrv2.old hbv3
      have bel_6 : Chg F w v3 := bel_5.old hbv3
      clear S_5 M_5 T_5 H_5 rrv2 bel_5 hbv3
      refine wp_region_held (S := fun w' => Row w' S 67 (pcs r mb pin) ∧ PMap w' mb E ∧ Row w' H 29 (u8s (digS x)) ∧ True) (by kernel_rfl) ?_
      change wpAnyH _ _ _ _ _ _ _ _ v3.drew
      have hd7 : Below v3.heap.size v3 v3.drew := (Below.refl _ _).drew
      have S_8 : Row v3.drew S 67 (pcs r mb pin) := S_6.old hd7
      have M_8 : PMap v3.drew mb E := M_6.old hd7
      have T_8 : ∀ p ∈ E, Row v3.drew p.2 41 (scs p.1) := fun p hp => (T_6 p hp).old hd7
      have H_8 : Row v3.drew H 29 (u8s (digS x)) := H_6.old hd7
      have X_8 : Row v3.drew X 41 (scs x) := X_6.old hd7
      have R_8 : Row v3.drew R 29 (u8s zh) := rrv3.old hd7
      have bel_8 : Chg F w v3.drew := bel_6.old hd7
      clear S_6 M_6 T_6 H_6 X_6 rrv3 bel_6 hd7
      generalize v3.drew = yz7 at S_8 M_8 T_8 H_8 X_8 R_8 bel_8 ⊢
      refine h_take 0 (.pointer (some ⟨S, 0, none⟩)) rfl 12 rfl (by kernel_rfl) (by kernel_rfl) (by kernel_rfl) (by kernel_rfl) (fun _ _ _ h => h) (fun w' _ => by kernel_rfl) ⟨S_8, M_8, H_8, trivial⟩ ?_
      simp only [Act.put, List.setIfInBounds_toArray, List.set_cons_zero, List.set_cons_succ]
      refine h_take 1 (.pointer (some ⟨S, 0, none⟩)) rfl 13 rfl (by kernel_rfl) (by kernel_rfl) (by kernel_rfl) (by kernel_rfl) (fun _ _ _ h => h) (fun w' _ => by kernel_rfl) ⟨S_8, M_8, H_8, trivial⟩ ?_
      simp only [Act.put, List.setIfInBounds_toArray, List.set_cons_zero, List.set_cons_succ]
      refine h_take 2 (.pointer (some ⟨S, 1, none⟩)) rfl 14 rfl (by kernel_rfl) (by kernel_rfl) (by kernel_rfl) (by kernel_rfl) (fun _ _ _ h => h) (fun w' _ => by kernel_rfl) ⟨S_8, M_8, H_8, trivial⟩ ?_
      simp only [Act.put, List.setIfInBounds_toArray, List.set_cons_zero, List.set_cons_succ]
      refine h_take 3 (.map (some mb)) rfl 15 rfl (by kernel_rfl) (by kernel_rfl) (by kernel_rfl) (by kernel_rfl) (fun _ _ _ h => h) (fun w' hw => run_op_load1 _ _ rfl (.map 29 71) und_map rfl ⟨S, 1, none⟩ rfl (.map (some mb)) (hw.1.cell (i := 1) rfl)) ⟨S_8, M_8, H_8, trivial⟩ ?_
      simp only [Act.put, List.setIfInBounds_toArray, List.set_cons_zero, List.set_cons_succ]
      refine h_take 4 (.agg (u8s (digS x)).toArray) rfl 16 rfl (by kernel_rfl) (by kernel_rfl) (by kernel_rfl) (by kernel_rfl) (fun _ _ _ h => h) (fun w' hw => run_op_load _ _ rfl H (0) rfl (u8s (digS x)) (((Has.refl _)).range hw.2.2.1) ((szH KH.out))) ⟨S_8, M_8, H_8, trivial⟩ ?_
      simp only [Act.put, List.setIfInBounds_toArray, List.set_cons_zero, List.set_cons_succ]
      refine h_take 5 (.tuple #[.pointer none, .bool false]) rfl 17 rfl (by kernel_rfl) (by kernel_rfl) (by kernel_rfl) (by kernel_rfl) (fun _ _ _ h => h) (fun w' hw => by rw [← HV.out]; exact run_op_lookupK _ _ _ true rfl rfl (digS x) HH.out rfl hw.2.1 hash_keys und_map _ (zero_ptr _)) ⟨S_8, M_8, H_8, trivial⟩ ?_
      simp only [Act.put, List.setIfInBounds_toArray, List.set_cons_zero, List.set_cons_succ]
      refine h_take 6 (.tuple #[.pointer none, .bool false]) rfl 11 rfl (by kernel_rfl) (by kernel_rfl) (by kernel_rfl) (by kernel_rfl) (fun _ _ _ h => h) (fun w' _ => by kernel_rfl) ⟨S_8, M_8, H_8, trivial⟩ ?_
      simp only [Act.put, List.setIfInBounds_toArray, List.set_cons_zero, List.set_cons_succ]
      refine h_take 7 (.pointer none) rfl 18 rfl (by kernel_rfl) (by kernel_rfl) (by kernel_rfl) (by kernel_rfl) (fun _ _ _ h => h) (fun w' _ => by kernel_rfl) ⟨S_8, M_8, H_8, trivial⟩ ?_
      simp only [Act.put, List.setIfInBounds_toArray, List.set_cons_zero, List.set_cons_succ]
      refine h_take 8 (.bool false) rfl 19 rfl (by kernel_rfl) (by kernel_rfl) (by kernel_rfl) (by kernel_rfl) (fun _ _ _ h => h) (fun w' _ => by kernel_rfl) ⟨S_8, M_8, H_8, trivial⟩ ?_
      simp only [Act.put, List.setIfInBounds_toArray, List.set_cons_zero, List.set_cons_succ]
      refine h_take 9 (.pointer none) rfl 8 rfl (by kernel_rfl) (by kernel_rfl) (by kernel_rfl) (by kernel_rfl) (fun _ _ _ h => h) (fun w' _ => by kernel_rfl) ⟨S_8, M_8, H_8, trivial⟩ ?_
      simp only [Act.put, List.setIfInBounds_toArray, List.set_cons_zero, List.set_cons_succ]
      refine h_take 10 (.bool false) rfl 9 rfl (by kernel_rfl) (by kernel_rfl) (by kernel_rfl) (by kernel_rfl) (fun _ _ _ h => h) (fun w' _ => by kernel_rfl) ⟨S_8, M_8, H_8, trivial⟩ ?_
      simp only [Act.put, List.setIfInBounds_toArray, List.set_cons_zero, List.set_cons_succ]
      refine wpAnyH_done (by kernel_rfl) ?_ _
      go_wp2_with fail
      have nHm : H ≠ mb := (M_8.row H_8).symm
      have nXm : X ≠ mb := (M_8.row X_8).symm
      have nRm : R ≠ mb := (M_8.row R_8).symm
      refine wp_region_held (S := fun w' => Row w' S 67 (pcs r mb pin) ∧ Row w' H 29 (u8s (digS x)) ∧ True) (by kernel_rfl) ?_
      change wpAnyH _ _ _ _ _ _ _ _ yz7.drew
      have hd9 : Below yz7.heap.size yz7 yz7.drew := (Below.refl _ _).drew
      have S_10 : Row yz7.drew S 67 (pcs r mb pin) := S_8.old hd9
      have M_10 : PMap yz7.drew mb E := M_8.old hd9
      have T_10 : ∀ p ∈ E, Row yz7.drew p.2 41 (scs p.1) := fun p hp => (T_8 p hp).old hd9
      have H_10 : Row yz7.drew H 29 (u8s (digS x)) := H_8.old hd9
      have X_10 : Row yz7.drew X 41 (scs x) := X_8.old hd9
      have R_10 : Row yz7.drew R 29 (u8s zh) := R_8.old hd9
      have bel_10 : Chg F w yz7.drew := bel_8.old hd9
      clear S_8 M_8 T_8 H_8 X_8 R_8 bel_8 hd9
      generalize yz7.drew = yz9 at S_10 M_10 T_10 H_10 X_10 R_10 bel_10 ⊢
      refine h_take 0 (.pointer (some ⟨S, 0, none⟩)) rfl 22 rfl (by kernel_rfl) (by kernel_rfl) (by kernel_rfl) (by kernel_rfl) (fun _ _ _ h => h) (fun w' _ => by kernel_rfl) ⟨S_10, H_10, trivial⟩ ?_
      simp only [Act.put, List.setIfInBounds_toArray, List.set_cons_zero, List.set_cons_succ]
      refine h_take 1 (.pointer (some ⟨S, 0, none⟩)) rfl 23 rfl (by kernel_rfl) (by kernel_rfl) (by kernel_rfl) (by kernel_rfl) (fun _ _ _ h => h) (fun w' _ => by kernel_rfl) ⟨S_10, H_10, trivial⟩ ?_
      simp only [Act.put, List.setIfInBounds_toArray, List.set_cons_zero, List.set_cons_succ]
      refine h_take 2 (.pointer (some ⟨S, 1, none⟩)) rfl 24 rfl (by kernel_rfl) (by kernel_rfl) (by kernel_rfl) (by kernel_rfl) (fun _ _ _ h => h) (fun w' _ => by kernel_rfl) ⟨S_10, H_10, trivial⟩ ?_
      simp only [Act.put, List.setIfInBounds_toArray, List.set_cons_zero, List.set_cons_succ]
      refine h_take 3 (.map (some mb)) rfl 25 rfl (by kernel_rfl) (by kernel_rfl) (by kernel_rfl) (by kernel_rfl) (fun _ _ _ h => h) (fun w' hw => run_op_load1 _ _ rfl (.map 29 71) und_map rfl ⟨S, 1, none⟩ rfl (.map (some mb)) (hw.1.cell (i := 1) rfl)) ⟨S_10, H_10, trivial⟩ ?_
      simp only [Act.put, List.setIfInBounds_toArray, List.set_cons_zero, List.set_cons_succ]
      refine h_take 4 (.agg (u8s (digS x)).toArray) rfl 26 rfl (by kernel_rfl) (by kernel_rfl) (by kernel_rfl) (by kernel_rfl) (fun _ _ _ h => h) (fun w' hw => run_op_load _ _ rfl H (0) rfl (u8s (digS x)) (((Has.refl _)).range hw.2.1) ((szH KH.out))) ⟨S_10, H_10, trivial⟩ ?_
      simp only [Act.put, List.setIfInBounds_toArray, List.set_cons_zero, List.set_cons_succ]
      refine h_one (i := 5) (by kernel_rfl) (o_updateK rfl rfl (by kernel_rfl) _ _ _ _ rfl rfl (digS x) HH.out rfl X rfl M_10 hash_keys und_map ?_)
      intro yU hMU oU sU
      rw [HPE.out X] at hMU
      have S_11 : Row yU S 67 (pcs r mb pin) := S_10.only oU nSm
      have M_11 : PMap yU mb (E ++ [(x, X)]) := hMU
      have T_11 : ∀ p ∈ E, Row yU p.2 41 (scs p.1) := fun p hp => (T_10 p hp).only oU ((fun p hp => NS.out p hp) p hp)
      have H_11 : Row yU H 29 (u8s (digS x)) := H_10.only oU nHm
      have X_11 : Row yU X 41 (scs x) := X_10.only oU nXm
      have R_11 : Row yU R 29 (u8s zh) := R_10.only oU nRm
      have bel_11 : Chg F w yU := bel_10.only oU (fm)
      clear S_10 M_10 T_10 H_10 X_10 R_10 bel_10 oU
      refine ⟨⟨S_11, H_11, trivial⟩, ?_⟩
      refine wpAnyH_done (by kernel_rfl) ?_ _
      have hA1 : SAt yU (fun k => F k ∨ k = X) S r mb pin (E ++ [(x, X)]) := by
        refine ⟨S_11, M_11, fun p hp => ?_, fun p hp => ?_, HP.out, .inl fS, .inl fm, fun p hp => ?_, fun k hk => ?_⟩
        · rcases List.mem_append.1 hp with hp | hp
          · exact T_11 p hp
          · rw [List.mem_singleton.1 hp]; exact X_11
        · rcases List.mem_append.1 hp with hp | hp
          · exact OK.out p hp
          · rw [List.mem_singleton.1 hp]; exact KX.out
        · rcases List.mem_append.1 hp with hp | hp
          · exact .inl (fE.out p hp)
          · rw [List.mem_singleton.1 hp]; exact .inr rfl
        · rcases hk with hk | rfl
          · exact Nat.lt_of_lt_of_le (LI.out k hk) bel_11.size
          · exact X_11.lt
      have GR : Hid (Grew F (fun k => F k ∨ k = X) w.heap.size) := Lib.hid (fun k hk => hk.imp id (fun e => by rw [e]; exact geX))
      have nRF : Hid (¬ (F R ∨ R = X)) := Lib.hid (fun h => h.elim (fun q => Nat.lt_irrefl _ (Nat.lt_of_lt_of_le (LI.out _ q) geR)) (fun e => by have := ltXR; omega))
      clear M_11
      clear T_11
      clear X_11
      clear H_11
      go_wp2_with fail
      have hM1 := hA1.map
      refine wp_region_held (S := fun w' => Row w' S 67 (pcs r mb pin) ∧ PMap w' mb (E ++ [(x, X)]) ∧ True) (by kernel_rfl) ?_
      change wpAnyH _ _ _ _ _ _ _ _ yU.drew
      have hd12 : Below yU.heap.size yU yU.drew := (Below.refl _ _).drew
      have S_13 : Row yU.drew S 67 (pcs r mb pin) := S_11.old hd12
      have R_13 : Row yU.drew R 29 (u8s zh) := R_11.old hd12
      have A_13 : SAt yU.drew (fun k => F k ∨ k = X) S r mb pin (E ++ [(x, X)]) := hA1.old hd12
      have M_13 : PMap yU.drew mb (E ++ [(x, X)]) := hM1.old hd12
      have bel_13 : Chg F w yU.drew := bel_11.old hd12
      clear S_11 R_11 hA1 hM1 bel_11 hd12
      generalize yU.drew = yz12 at S_13 R_13 A_13 M_13 bel_13 ⊢
      refine h_take 0 (.pointer (some ⟨S, 0, none⟩)) rfl 27 rfl (by kernel_rfl) (by kernel_rfl) (by kernel_rfl) (by kernel_rfl) (fun _ _ _ h => h) (fun w' _ => by kernel_rfl) ⟨S_13, M_13, trivial⟩ ?_
      simp only [Act.put, List.setIfInBounds_toArray, List.set_cons_zero, List.set_cons_succ]
      refine h_take 1 (.pointer (some ⟨S, 0, none⟩)) rfl 28 rfl (by kernel_rfl) (by kernel_rfl) (by kernel_rfl) (by kernel_rfl) (fun _ _ _ h => h) (fun w' _ => by kernel_rfl) ⟨S_13, M_13, trivial⟩ ?_
      simp only [Act.put, List.setIfInBounds_toArray, List.set_cons_zero, List.set_cons_succ]
      refine h_take 2 (.pointer (some ⟨S, 1, none⟩)) rfl 29 rfl (by kernel_rfl) (by kernel_rfl) (by kernel_rfl) (by kernel_rfl) (fun _ _ _ h => h) (fun w' _ => by kernel_rfl) ⟨S_13, M_13, trivial⟩ ?_
      simp only [Act.put, List.setIfInBounds_toArray, List.set_cons_zero, List.set_cons_succ]
      refine h_take 3 (.map (some mb)) rfl 30 rfl (by kernel_rfl) (by kernel_rfl) (by kernel_rfl) (by kernel_rfl) (fun _ _ _ h => h) (fun w' hw => run_op_load1 _ _ rfl (.map 29 71) und_map rfl ⟨S, 1, none⟩ rfl (.map (some mb)) (hw.1.cell (i := 1) rfl)) ⟨S_13, M_13, trivial⟩ ?_
      simp only [Act.put, List.setIfInBounds_toArray, List.set_cons_zero, List.set_cons_succ]
      refine h_take 4 (.int .i64 ((L.length + 1 : Nat) : Int)) rfl 31 rfl (by kernel_rfl) (by kernel_rfl) (by kernel_rfl) (by kernel_rfl) (fun _ _ _ h => h) (fun w' hw => by rw [← HN1.out X]; exact Km.run_op_lenK _ _ rfl rfl hw.2.1 und_map) ⟨S_13, M_13, trivial⟩ ?_
      simp only [Act.put, List.setIfInBounds_toArray, List.set_cons_zero, List.set_cons_succ]
      refine h_take 5 (.pointer (some ⟨S, 0, none⟩)) rfl 32 rfl (by kernel_rfl) (by kernel_rfl) (by kernel_rfl) (by kernel_rfl) (fun _ _ _ h => h) (fun w' _ => by kernel_rfl) ⟨S_13, M_13, trivial⟩ ?_
      simp only [Act.put, List.setIfInBounds_toArray, List.set_cons_zero, List.set_cons_succ]
      refine h_take 6 (.pointer (some ⟨S, 0, none⟩)) rfl 33 rfl (by kernel_rfl) (by kernel_rfl) (by kernel_rfl) (by kernel_rfl) (fun _ _ _ h => h) (fun w' _ => by kernel_rfl) ⟨S_13, M_13, trivial⟩ ?_
      simp only [Act.put, List.setIfInBounds_toArray, List.set_cons_zero, List.set_cons_succ]
      refine h_take 7 (.pointer (some ⟨S, 0, none⟩)) rfl 34 rfl (by kernel_rfl) (by kernel_rfl) (by kernel_rfl) (by kernel_rfl) (fun _ _ _ h => h) (fun w' _ => by kernel_rfl) ⟨S_13, M_13, trivial⟩ ?_
      simp only [Act.put, List.setIfInBounds_toArray, List.set_cons_zero, List.set_cons_succ]
      refine h_take 8 (.int .i64 (r : Int)) rfl 35 rfl (by kernel_rfl) (by kernel_rfl) (by kernel_rfl) (by kernel_rfl) (fun _ _ _ h => h) (fun w' hw => run_op_load1 _ _ rfl (.int .i64) (by kernel_rfl) rfl ⟨S, 0, none⟩ rfl (.int .i64 (r : Int)) (hw.1.cell (i := 0) rfl)) ⟨S_13, M_13, trivial⟩ ?_
      simp only [Act.put, List.setIfInBounds_toArray, List.set_cons_zero, List.set_cons_succ]
      refine h_take 9 (.bool true) rfl 36 rfl (by kernel_rfl) (by kernel_rfl) (by kernel_rfl) (by kernel_rfl) (fun _ _ _ h => h) (fun w' _ => cmp_leq _ _ _ _ rfl .i64 ((L.length + 1 : Nat) : Int) (r : Int) rfl rfl true d1 w') ⟨S_13, M_13, trivial⟩ ?_
      simp only [Act.put, List.setIfInBounds_toArray, List.set_cons_zero, List.set_cons_succ]
      refine wpAnyH_done (by kernel_rfl) ?_ _
      clear M_13
      go_wp2_with (first
        | ((with_reducible refine at_slot 37 ?_); (refine arm_build (o := ⟨some 37, _, _, _, _, _⟩) rfl _ _ rfl (u8s zh) (by kernel_rfl) ?_); try simp only [Act.put, List.setIfInBounds_toArray, List.set_cons_zero, List.set_cons_succ])
        | ((with_reducible refine arm_store (o := ⟨none, _, _, _, _, _⟩) rfl _ _ _ rfl R 0 rfl (u8s zh) rfl _ _ (R_13) (fitH zh_ok) (u8s_one _) (szH zh_ok) ?_); intro y8 hy8 oy8 sy8; try simp only [Act.put, List.setIfInBounds_toArray, List.set_cons_zero, List.set_cons_succ]))
      have hc8 := bel_13.new oy8 geR
      have hA8 := A_13.only oy8 nRF.out
      exact bodyPost_ret (result_row2 (p := 6) (u := 7) (ty := 29) (t := 29) (by kernel_rfl) _ _ R (u8s zh) (.bool false) rfl rfl (hy8.congr (allH zh_ok)) (szH zh_ok)) rfl ⟨rfl, ⟨_, _, hA8, HE1.out X, GR.out⟩, hc8⟩
    · obtain ⟨x0, h0⟩ : ∃ x0, (ins vK x L)[0]? = some x0 := ⟨_, List.getElem?_eq_getElem (by omega)⟩
      obtain ⟨x1, h1⟩ : ∃ x1, (ins vK x L)[1]? = some x1 := ⟨_, List.getElem?_eq_getElem (by omega)⟩
      have hol : out digS pin (ins vK x L) < (ins vK x L).length := by have := out_le (d := digS) pin (ins vK x L); omega
      obtain ⟨g, hg⟩ : ∃ g, (ins vK x L)[out digS pin (ins vK x L)]? = some g := ⟨_, List.getElem?_eq_getElem hol⟩
      have HQ := Lib.hid (put_full hb hf hg)
      rw [HQ.out]
      have HG := Lib.hid (out_if h0 h1 hg)
      have d1 : decide (((L.length + 1 : Nat) : Int) ≤ (r : Int)) = false := decide_eq_false (by omega)
      have CL := Lib.hid (fun F1 X w0 a => least_any F1 S r mb pin (E ++ [(x, X)]) (ins vK x L) w0 a hL1 (HE1.out X) (by omega) x0 x1 h0 h1)
      rw [HG.out] at CL
      have HD : Hid (∀ X, ((E ++ [(x, X)]).map fun p => digS p.1).Nodup → (((E ++ [(x, X)]).filter fun p : Sta × Nat => decide (digS p.1 ≠ digS g)).map Prod.fst).Perm ((ins vK x L).eraseIdx (out digS pin (ins vK x L)))) := Lib.hid fun X hn => by
        have e : g = (ins vK x L)[out digS pin (ins vK x L)] := by rw [List.getElem?_eq_getElem hol] at hg; exact (Option.some.inj hg).symm
        have h2 := fst_filter (digS g) (HE1.out X)
        have h3 := filter_erase (ents_pair hn (HE1.out X)) hol
        rw [← e] at h3
        rw [h3] at h2
        exact h2
      have KG := Lib.hid (digS_ok g)
      have HHG : Hid (hashOk (digS g)) := Lib.hid (digS_ok g).len
      clear hb hf hil hL1 hL hE kL hl hr kx h0 h1 hol hg HG HQ
      go_enter Tryd.func23, Tryd.ntmps23
      have bel0 : Chg F w w := Chg.refl _ _
      go_wp2_with (first
        | ((with_reducible refine at_slot 4 ?_); (refine arm_box (o := ⟨some 4, _, _, _, _, _⟩) rfl _ _ rfl (u8s (digS x)) rfl ?_); intro H v1 He hv1 nv1; try simp only [Act.put, List.setIfInBounds_toArray, List.set_cons_zero, List.set_cons_succ])
        | ((with_reducible refine at_slot 5 ?_); (refine arm_box (o := ⟨some 5, _, _, _, _, _⟩) rfl _ _ rfl (scs x) rfl ?_); intro X v2 Xe hv2 nv2; try simp only [Act.put, List.setIfInBounds_toArray, List.set_cons_zero, List.set_cons_succ])
        | ((with_reducible refine at_slot 6 ?_); (refine arm_alloc (o := ⟨some 6, _, _, _, _, _⟩) rfl _ rfl (u8s zh) zH ?_); intro R v3 Re hv3 nv3; try simp only [Act.put, List.setIfInBounds_toArray, List.set_cons_zero, List.set_cons_succ]))
      have hbv1 := nv1.below
      have rrv1 : Row v1 H 29 (u8s (digS x)) := hv1
      have hbv2 := nv2.below
      have rrv2 : Row v2 X 41 (scs x) := hv2
      have hbv3 := nv3.below
      have rrv3 : Row v3 R 29 (u8s zh) := hv3
      have geH : w.heap.size ≤ H := by have := He.out; have := bel0.size; omega
      have lHx : w.heap.size ≤ H := by have := He.out; omega
      clear hv1 nv1 He
      have S_4 : Row v1 S 67 (pcs r mb pin) := hrow.old hbv1
      have M_4 : PMap v1 mb E := hmap.old hbv1
      have T_4 : ∀ p ∈ E, Row v1 p.2 41 (scs p.1) := fun p hp => (hst p hp).old hbv1
      have bel_4 : Chg F w v1 := bel0.old hbv1
      clear hrow hmap hst bel0 hbv1
      have geX : w.heap.size ≤ X := by have := Xe.out; have := bel_4.size; omega
      have ltHX : H < X := by have := Xe.out; have := rrv1.lt; omega
      have lXx : v1.heap.size ≤ X := by have := Xe.out; omega
      clear hv2 nv2 Xe
      have S_5 : Row v2 S 67 (pcs r mb pin) := S_4.old hbv2
      have M_5 : PMap v2 mb E := M_4.old hbv2
      have T_5 : ∀ p ∈ E, Row v2 p.2 41 (scs p.1) := fun p hp => (T_4 p hp).old hbv2
      have H_5 : Row v2 H 29 (u8s (digS x)) := rrv1.old hbv2
      have bel_5 : Chg F w v2 := bel_4.old hbv2
      clear S_4 M_4 T_4 rrv1 bel_4 hbv2
      have geR : w.heap.size ≤ R := by have := Re.out; have := bel_5.size; omega
      have ltXR : X < R := by have := Re.out; have := rrv2.lt; omega
      have lRx : v2.heap.size ≤ R := by have := Re.out; omega
      clear hv3 nv3 Re
      have S_6 : Row v3 S 67 (pcs r mb pin) := S_5.old hbv3
      have M_6 : PMap v3 mb E := M_5.old hbv3
      have T_6 : ∀ p ∈ E, Row v3 p.2 41 (scs p.1) := fun p hp => (T_5 p hp).old hbv3
      have H_6 : Row v3 H 29 (u8s (digS x)) := H_5.old hbv3
      have X_6 : Row v3 X 41 (scs x) := rrv2.old hbv3
      have bel_6 : Chg F w v3 := bel_5.old hbv3
      clear S_5 M_5 T_5 H_5 rrv2 bel_5 hbv3
      refine wp_region_held (S := fun w' => Row w' S 67 (pcs r mb pin) ∧ PMap w' mb E ∧ Row w' H 29 (u8s (digS x)) ∧ True) (by kernel_rfl) ?_
      change wpAnyH _ _ _ _ _ _ _ _ v3.drew
      have hd7 : Below v3.heap.size v3 v3.drew := (Below.refl _ _).drew
      have S_8 : Row v3.drew S 67 (pcs r mb pin) := S_6.old hd7
      have M_8 : PMap v3.drew mb E := M_6.old hd7
      have T_8 : ∀ p ∈ E, Row v3.drew p.2 41 (scs p.1) := fun p hp => (T_6 p hp).old hd7
      have H_8 : Row v3.drew H 29 (u8s (digS x)) := H_6.old hd7
      have X_8 : Row v3.drew X 41 (scs x) := X_6.old hd7
      have R_8 : Row v3.drew R 29 (u8s zh) := rrv3.old hd7
      have bel_8 : Chg F w v3.drew := bel_6.old hd7
      clear S_6 M_6 T_6 H_6 X_6 rrv3 bel_6 hd7
      generalize v3.drew = yz7 at S_8 M_8 T_8 H_8 X_8 R_8 bel_8 ⊢
      refine h_take 0 (.pointer (some ⟨S, 0, none⟩)) rfl 12 rfl (by kernel_rfl) (by kernel_rfl) (by kernel_rfl) (by kernel_rfl) (fun _ _ _ h => h) (fun w' _ => by kernel_rfl) ⟨S_8, M_8, H_8, trivial⟩ ?_
      simp only [Act.put, List.setIfInBounds_toArray, List.set_cons_zero, List.set_cons_succ]
      refine h_take 1 (.pointer (some ⟨S, 0, none⟩)) rfl 13 rfl (by kernel_rfl) (by kernel_rfl) (by kernel_rfl) (by kernel_rfl) (fun _ _ _ h => h) (fun w' _ => by kernel_rfl) ⟨S_8, M_8, H_8, trivial⟩ ?_
      simp only [Act.put, List.setIfInBounds_toArray, List.set_cons_zero, List.set_cons_succ]
      refine h_take 2 (.pointer (some ⟨S, 1, none⟩)) rfl 14 rfl (by kernel_rfl) (by kernel_rfl) (by kernel_rfl) (by kernel_rfl) (fun _ _ _ h => h) (fun w' _ => by kernel_rfl) ⟨S_8, M_8, H_8, trivial⟩ ?_
      simp only [Act.put, List.setIfInBounds_toArray, List.set_cons_zero, List.set_cons_succ]
      refine h_take 3 (.map (some mb)) rfl 15 rfl (by kernel_rfl) (by kernel_rfl) (by kernel_rfl) (by kernel_rfl) (fun _ _ _ h => h) (fun w' hw => run_op_load1 _ _ rfl (.map 29 71) und_map rfl ⟨S, 1, none⟩ rfl (.map (some mb)) (hw.1.cell (i := 1) rfl)) ⟨S_8, M_8, H_8, trivial⟩ ?_
      simp only [Act.put, List.setIfInBounds_toArray, List.set_cons_zero, List.set_cons_succ]
      refine h_take 4 (.agg (u8s (digS x)).toArray) rfl 16 rfl (by kernel_rfl) (by kernel_rfl) (by kernel_rfl) (by kernel_rfl) (fun _ _ _ h => h) (fun w' hw => run_op_load _ _ rfl H (0) rfl (u8s (digS x)) (((Has.refl _)).range hw.2.2.1) ((szH KH.out))) ⟨S_8, M_8, H_8, trivial⟩ ?_
      simp only [Act.put, List.setIfInBounds_toArray, List.set_cons_zero, List.set_cons_succ]
      refine h_take 5 (.tuple #[.pointer none, .bool false]) rfl 17 rfl (by kernel_rfl) (by kernel_rfl) (by kernel_rfl) (by kernel_rfl) (fun _ _ _ h => h) (fun w' hw => by rw [← HV.out]; exact run_op_lookupK _ _ _ true rfl rfl (digS x) HH.out rfl hw.2.1 hash_keys und_map _ (zero_ptr _)) ⟨S_8, M_8, H_8, trivial⟩ ?_
      simp only [Act.put, List.setIfInBounds_toArray, List.set_cons_zero, List.set_cons_succ]
      refine h_take 6 (.tuple #[.pointer none, .bool false]) rfl 11 rfl (by kernel_rfl) (by kernel_rfl) (by kernel_rfl) (by kernel_rfl) (fun _ _ _ h => h) (fun w' _ => by kernel_rfl) ⟨S_8, M_8, H_8, trivial⟩ ?_
      simp only [Act.put, List.setIfInBounds_toArray, List.set_cons_zero, List.set_cons_succ]
      refine h_take 7 (.pointer none) rfl 18 rfl (by kernel_rfl) (by kernel_rfl) (by kernel_rfl) (by kernel_rfl) (fun _ _ _ h => h) (fun w' _ => by kernel_rfl) ⟨S_8, M_8, H_8, trivial⟩ ?_
      simp only [Act.put, List.setIfInBounds_toArray, List.set_cons_zero, List.set_cons_succ]
      refine h_take 8 (.bool false) rfl 19 rfl (by kernel_rfl) (by kernel_rfl) (by kernel_rfl) (by kernel_rfl) (fun _ _ _ h => h) (fun w' _ => by kernel_rfl) ⟨S_8, M_8, H_8, trivial⟩ ?_
      simp only [Act.put, List.setIfInBounds_toArray, List.set_cons_zero, List.set_cons_succ]
      refine h_take 9 (.pointer none) rfl 8 rfl (by kernel_rfl) (by kernel_rfl) (by kernel_rfl) (by kernel_rfl) (fun _ _ _ h => h) (fun w' _ => by kernel_rfl) ⟨S_8, M_8, H_8, trivial⟩ ?_
      simp only [Act.put, List.setIfInBounds_toArray, List.set_cons_zero, List.set_cons_succ]
      refine h_take 10 (.bool false) rfl 9 rfl (by kernel_rfl) (by kernel_rfl) (by kernel_rfl) (by kernel_rfl) (fun _ _ _ h => h) (fun w' _ => by kernel_rfl) ⟨S_8, M_8, H_8, trivial⟩ ?_
      simp only [Act.put, List.setIfInBounds_toArray, List.set_cons_zero, List.set_cons_succ]
      refine wpAnyH_done (by kernel_rfl) ?_ _
      go_wp2_with fail
      have nHm : H ≠ mb := (M_8.row H_8).symm
      have nXm : X ≠ mb := (M_8.row X_8).symm
      have nRm : R ≠ mb := (M_8.row R_8).symm
      refine wp_region_held (S := fun w' => Row w' S 67 (pcs r mb pin) ∧ Row w' H 29 (u8s (digS x)) ∧ True) (by kernel_rfl) ?_
      change wpAnyH _ _ _ _ _ _ _ _ yz7.drew
      have hd9 : Below yz7.heap.size yz7 yz7.drew := (Below.refl _ _).drew
      have S_10 : Row yz7.drew S 67 (pcs r mb pin) := S_8.old hd9
      have M_10 : PMap yz7.drew mb E := M_8.old hd9
      have T_10 : ∀ p ∈ E, Row yz7.drew p.2 41 (scs p.1) := fun p hp => (T_8 p hp).old hd9
      have H_10 : Row yz7.drew H 29 (u8s (digS x)) := H_8.old hd9
      have X_10 : Row yz7.drew X 41 (scs x) := X_8.old hd9
      have R_10 : Row yz7.drew R 29 (u8s zh) := R_8.old hd9
      have bel_10 : Chg F w yz7.drew := bel_8.old hd9
      clear S_8 M_8 T_8 H_8 X_8 R_8 bel_8 hd9
      generalize yz7.drew = yz9 at S_10 M_10 T_10 H_10 X_10 R_10 bel_10 ⊢
      refine h_take 0 (.pointer (some ⟨S, 0, none⟩)) rfl 22 rfl (by kernel_rfl) (by kernel_rfl) (by kernel_rfl) (by kernel_rfl) (fun _ _ _ h => h) (fun w' _ => by kernel_rfl) ⟨S_10, H_10, trivial⟩ ?_
      simp only [Act.put, List.setIfInBounds_toArray, List.set_cons_zero, List.set_cons_succ]
      refine h_take 1 (.pointer (some ⟨S, 0, none⟩)) rfl 23 rfl (by kernel_rfl) (by kernel_rfl) (by kernel_rfl) (by kernel_rfl) (fun _ _ _ h => h) (fun w' _ => by kernel_rfl) ⟨S_10, H_10, trivial⟩ ?_
      simp only [Act.put, List.setIfInBounds_toArray, List.set_cons_zero, List.set_cons_succ]
      refine h_take 2 (.pointer (some ⟨S, 1, none⟩)) rfl 24 rfl (by kernel_rfl) (by kernel_rfl) (by kernel_rfl) (by kernel_rfl) (fun _ _ _ h => h) (fun w' _ => by kernel_rfl) ⟨S_10, H_10, trivial⟩ ?_
      simp only [Act.put, List.setIfInBounds_toArray, List.set_cons_zero, List.set_cons_succ]
      refine h_take 3 (.map (some mb)) rfl 25 rfl (by kernel_rfl) (by kernel_rfl) (by kernel_rfl) (by kernel_rfl) (fun _ _ _ h => h) (fun w' hw => run_op_load1 _ _ rfl (.map 29 71) und_map rfl ⟨S, 1, none⟩ rfl (.map (some mb)) (hw.1.cell (i := 1) rfl)) ⟨S_10, H_10, trivial⟩ ?_
      simp only [Act.put, List.setIfInBounds_toArray, List.set_cons_zero, List.set_cons_succ]
      refine h_take 4 (.agg (u8s (digS x)).toArray) rfl 26 rfl (by kernel_rfl) (by kernel_rfl) (by kernel_rfl) (by kernel_rfl) (fun _ _ _ h => h) (fun w' hw => run_op_load _ _ rfl H (0) rfl (u8s (digS x)) (((Has.refl _)).range hw.2.1) ((szH KH.out))) ⟨S_10, H_10, trivial⟩ ?_
      simp only [Act.put, List.setIfInBounds_toArray, List.set_cons_zero, List.set_cons_succ]
      refine h_one (i := 5) (by kernel_rfl) (o_updateK rfl rfl (by kernel_rfl) _ _ _ _ rfl rfl (digS x) HH.out rfl X rfl M_10 hash_keys und_map ?_)
      intro yU hMU oU sU
      rw [HPE.out X] at hMU
      have S_11 : Row yU S 67 (pcs r mb pin) := S_10.only oU nSm
      have M_11 : PMap yU mb (E ++ [(x, X)]) := hMU
      have T_11 : ∀ p ∈ E, Row yU p.2 41 (scs p.1) := fun p hp => (T_10 p hp).only oU ((fun p hp => NS.out p hp) p hp)
      have H_11 : Row yU H 29 (u8s (digS x)) := H_10.only oU nHm
      have X_11 : Row yU X 41 (scs x) := X_10.only oU nXm
      have R_11 : Row yU R 29 (u8s zh) := R_10.only oU nRm
      have bel_11 : Chg F w yU := bel_10.only oU (fm)
      clear S_10 M_10 T_10 H_10 X_10 R_10 bel_10 oU
      refine ⟨⟨S_11, H_11, trivial⟩, ?_⟩
      refine wpAnyH_done (by kernel_rfl) ?_ _
      have hA1 : SAt yU (fun k => F k ∨ k = X) S r mb pin (E ++ [(x, X)]) := by
        refine ⟨S_11, M_11, fun p hp => ?_, fun p hp => ?_, HP.out, .inl fS, .inl fm, fun p hp => ?_, fun k hk => ?_⟩
        · rcases List.mem_append.1 hp with hp | hp
          · exact T_11 p hp
          · rw [List.mem_singleton.1 hp]; exact X_11
        · rcases List.mem_append.1 hp with hp | hp
          · exact OK.out p hp
          · rw [List.mem_singleton.1 hp]; exact KX.out
        · rcases List.mem_append.1 hp with hp | hp
          · exact .inl (fE.out p hp)
          · rw [List.mem_singleton.1 hp]; exact .inr rfl
        · rcases hk with hk | rfl
          · exact Nat.lt_of_lt_of_le (LI.out k hk) bel_11.size
          · exact X_11.lt
      have GR : Hid (Grew F (fun k => F k ∨ k = X) w.heap.size) := Lib.hid (fun k hk => hk.imp id (fun e => by rw [e]; exact geX))
      have nRF : Hid (¬ (F R ∨ R = X)) := Lib.hid (fun h => h.elim (fun q => Nat.lt_irrefl _ (Nat.lt_of_lt_of_le (LI.out _ q) geR)) (fun e => by have := ltXR; omega))
      clear M_11
      clear T_11
      clear X_11
      clear H_11
      go_wp2_with fail
      have hM1 := hA1.map
      refine wp_region_held (S := fun w' => Row w' S 67 (pcs r mb pin) ∧ PMap w' mb (E ++ [(x, X)]) ∧ True) (by kernel_rfl) ?_
      change wpAnyH _ _ _ _ _ _ _ _ yU.drew
      have hd12 : Below yU.heap.size yU yU.drew := (Below.refl _ _).drew
      have S_13 : Row yU.drew S 67 (pcs r mb pin) := S_11.old hd12
      have R_13 : Row yU.drew R 29 (u8s zh) := R_11.old hd12
      have A_13 : SAt yU.drew (fun k => F k ∨ k = X) S r mb pin (E ++ [(x, X)]) := hA1.old hd12
      have M_13 : PMap yU.drew mb (E ++ [(x, X)]) := hM1.old hd12
      have bel_13 : Chg F w yU.drew := bel_11.old hd12
      clear S_11 R_11 hA1 hM1 bel_11 hd12
      generalize yU.drew = yz12 at S_13 R_13 A_13 M_13 bel_13 ⊢
      refine h_take 0 (.pointer (some ⟨S, 0, none⟩)) rfl 27 rfl (by kernel_rfl) (by kernel_rfl) (by kernel_rfl) (by kernel_rfl) (fun _ _ _ h => h) (fun w' _ => by kernel_rfl) ⟨S_13, M_13, trivial⟩ ?_
      simp only [Act.put, List.setIfInBounds_toArray, List.set_cons_zero, List.set_cons_succ]
      refine h_take 1 (.pointer (some ⟨S, 0, none⟩)) rfl 28 rfl (by kernel_rfl) (by kernel_rfl) (by kernel_rfl) (by kernel_rfl) (fun _ _ _ h => h) (fun w' _ => by kernel_rfl) ⟨S_13, M_13, trivial⟩ ?_
      simp only [Act.put, List.setIfInBounds_toArray, List.set_cons_zero, List.set_cons_succ]
      refine h_take 2 (.pointer (some ⟨S, 1, none⟩)) rfl 29 rfl (by kernel_rfl) (by kernel_rfl) (by kernel_rfl) (by kernel_rfl) (fun _ _ _ h => h) (fun w' _ => by kernel_rfl) ⟨S_13, M_13, trivial⟩ ?_
      simp only [Act.put, List.setIfInBounds_toArray, List.set_cons_zero, List.set_cons_succ]
      refine h_take 3 (.map (some mb)) rfl 30 rfl (by kernel_rfl) (by kernel_rfl) (by kernel_rfl) (by kernel_rfl) (fun _ _ _ h => h) (fun w' hw => run_op_load1 _ _ rfl (.map 29 71) und_map rfl ⟨S, 1, none⟩ rfl (.map (some mb)) (hw.1.cell (i := 1) rfl)) ⟨S_13, M_13, trivial⟩ ?_
      simp only [Act.put, List.setIfInBounds_toArray, List.set_cons_zero, List.set_cons_succ]
      refine h_take 4 (.int .i64 ((L.length + 1 : Nat) : Int)) rfl 31 rfl (by kernel_rfl) (by kernel_rfl) (by kernel_rfl) (by kernel_rfl) (fun _ _ _ h => h) (fun w' hw => by rw [← HN1.out X]; exact Km.run_op_lenK _ _ rfl rfl hw.2.1 und_map) ⟨S_13, M_13, trivial⟩ ?_
      simp only [Act.put, List.setIfInBounds_toArray, List.set_cons_zero, List.set_cons_succ]
      refine h_take 5 (.pointer (some ⟨S, 0, none⟩)) rfl 32 rfl (by kernel_rfl) (by kernel_rfl) (by kernel_rfl) (by kernel_rfl) (fun _ _ _ h => h) (fun w' _ => by kernel_rfl) ⟨S_13, M_13, trivial⟩ ?_
      simp only [Act.put, List.setIfInBounds_toArray, List.set_cons_zero, List.set_cons_succ]
      refine h_take 6 (.pointer (some ⟨S, 0, none⟩)) rfl 33 rfl (by kernel_rfl) (by kernel_rfl) (by kernel_rfl) (by kernel_rfl) (fun _ _ _ h => h) (fun w' _ => by kernel_rfl) ⟨S_13, M_13, trivial⟩ ?_
      simp only [Act.put, List.setIfInBounds_toArray, List.set_cons_zero, List.set_cons_succ]
      refine h_take 7 (.pointer (some ⟨S, 0, none⟩)) rfl 34 rfl (by kernel_rfl) (by kernel_rfl) (by kernel_rfl) (by kernel_rfl) (fun _ _ _ h => h) (fun w' _ => by kernel_rfl) ⟨S_13, M_13, trivial⟩ ?_
      simp only [Act.put, List.setIfInBounds_toArray, List.set_cons_zero, List.set_cons_succ]
      refine h_take 8 (.int .i64 (r : Int)) rfl 35 rfl (by kernel_rfl) (by kernel_rfl) (by kernel_rfl) (by kernel_rfl) (fun _ _ _ h => h) (fun w' hw => run_op_load1 _ _ rfl (.int .i64) (by kernel_rfl) rfl ⟨S, 0, none⟩ rfl (.int .i64 (r : Int)) (hw.1.cell (i := 0) rfl)) ⟨S_13, M_13, trivial⟩ ?_
      simp only [Act.put, List.setIfInBounds_toArray, List.set_cons_zero, List.set_cons_succ]
      refine h_take 9 (.bool false) rfl 36 rfl (by kernel_rfl) (by kernel_rfl) (by kernel_rfl) (by kernel_rfl) (fun _ _ _ h => h) (fun w' _ => cmp_leq _ _ _ _ rfl .i64 ((L.length + 1 : Nat) : Int) (r : Int) rfl rfl false d1 w') ⟨S_13, M_13, trivial⟩ ?_
      simp only [Act.put, List.setIfInBounds_toArray, List.set_cons_zero, List.set_cons_succ]
      refine wpAnyH_done (by kernel_rfl) ?_ _
      clear M_13
      go_wp2_with fail
      refine (CL.out _ X _ A_13).mono ?_
      rintro e y14 ⟨rfl, hB⟩
      have S_15 : Row y14 S 67 (pcs r mb pin) := S_13.old hB
      have R_15 : Row y14 R 29 (u8s zh) := R_13.old hB
      have A_15 : SAt y14 (fun k => F k ∨ k = X) S r mb pin (E ++ [(x, X)]) := A_13.old hB
      have bel_15 : Chg F w y14 := bel_13.old hB
      clear S_13 R_13 A_13 bel_13 hB
      go_wp2_with (first
        | ((with_reducible refine at_slot 10 ?_); (refine arm_alloc (o := ⟨some 10, _, _, _, _, _⟩) rfl _ rfl (u8s zh) zH ?_); intro Z v16a Ze hZa nZ; try simp only [Act.put, List.setIfInBounds_toArray, List.set_cons_zero, List.set_cons_succ])
        | ((with_reducible refine arm_store (o := ⟨none, _, _, _, _, _⟩) rfl _ _ _ rfl Z 0 rfl (u8s (digS g)) rfl _ _ hZa (fitH KG.out) (u8s_one _) (szH KG.out) ?_); intro v16 hZb oZ sZ; try simp only [Act.put, List.setIfInBounds_toArray, List.set_cons_zero, List.set_cons_succ]; refine fpause ?_; try simp only [Act.put, List.setIfInBounds_toArray, List.set_cons_zero, List.set_cons_succ]))
      have lZ : y14.heap.size ≤ Z := by have := Ze.out; omega
      have bZ : Below y14.heap.size y14 v16 := below_only nZ.below oZ lZ nZ.below.size
      have rrZ : Row v16 Z 29 (u8s (digS g)) := hZb.congr (allH KG.out)
      have geZ : w.heap.size ≤ Z := Nat.le_trans bel_15.size lZ
      have lZx := lZ
      clear hZa hZb nZ oZ sZ Ze lZ
      have S_17 : Row v16 S 67 (pcs r mb pin) := S_15.old bZ
      have R_17 : Row v16 R 29 (u8s zh) := R_15.old bZ
      have A_17 : SAt v16 (fun k => F k ∨ k = X) S r mb pin (E ++ [(x, X)]) := A_15.old bZ
      have bel_17 : Chg F w v16 := bel_15.old bZ
      clear S_15 R_15 A_15 bel_15 bZ
      refine fgo ?_
      have hM2 := A_17.map
      have nZm : Z ≠ mb := (hM2.row rrZ).symm
      have nZF : Hid (¬ (F Z ∨ Z = X)) := Lib.hid (fun h => h.elim (fun q => Nat.lt_irrefl _ (Nat.lt_of_lt_of_le (LI.out _ q) geZ)) (fun e => rrZ.ne_type (A_17.st (x, X) (by simp)) (by decide) e))
      go_wp2_with fail
      refine wp_region_held (S := fun w' => Row w' S 67 (pcs r mb pin) ∧ Row w' Z 29 (u8s (digS g)) ∧ True) (by kernel_rfl) ?_
      change wpAnyH _ _ _ _ _ _ _ _ v16.drew
      have hd18 : Below v16.heap.size v16 v16.drew := (Below.refl _ _).drew
      have S_19 : Row v16.drew S 67 (pcs r mb pin) := S_17.old hd18
      have R_19 : Row v16.drew R 29 (u8s zh) := R_17.old hd18
      have A_19 : SAt v16.drew (fun k => F k ∨ k = X) S r mb pin (E ++ [(x, X)]) := A_17.old hd18
      have Z_19 : Row v16.drew Z 29 (u8s (digS g)) := rrZ.old hd18
      have M_19 : PMap v16.drew mb (E ++ [(x, X)]) := hM2.old hd18
      have bel_19 : Chg F w v16.drew := bel_17.old hd18
      clear S_17 R_17 A_17 rrZ hM2 bel_17 hd18
      generalize v16.drew = yz18 at S_19 R_19 A_19 Z_19 M_19 bel_19 ⊢
      refine h_take 0 (.pointer (some ⟨S, 0, none⟩)) rfl 40 rfl (by kernel_rfl) (by kernel_rfl) (by kernel_rfl) (by kernel_rfl) (fun _ _ _ h => h) (fun w' _ => by kernel_rfl) ⟨S_19, Z_19, trivial⟩ ?_
      simp only [Act.put, List.setIfInBounds_toArray, List.set_cons_zero, List.set_cons_succ]
      refine h_take 1 (.pointer (some ⟨S, 0, none⟩)) rfl 41 rfl (by kernel_rfl) (by kernel_rfl) (by kernel_rfl) (by kernel_rfl) (fun _ _ _ h => h) (fun w' _ => by kernel_rfl) ⟨S_19, Z_19, trivial⟩ ?_
      simp only [Act.put, List.setIfInBounds_toArray, List.set_cons_zero, List.set_cons_succ]
      refine h_take 2 (.pointer (some ⟨S, 1, none⟩)) rfl 42 rfl (by kernel_rfl) (by kernel_rfl) (by kernel_rfl) (by kernel_rfl) (fun _ _ _ h => h) (fun w' _ => by kernel_rfl) ⟨S_19, Z_19, trivial⟩ ?_
      simp only [Act.put, List.setIfInBounds_toArray, List.set_cons_zero, List.set_cons_succ]
      refine h_take 3 (.map (some mb)) rfl 43 rfl (by kernel_rfl) (by kernel_rfl) (by kernel_rfl) (by kernel_rfl) (fun _ _ _ h => h) (fun w' hw => run_op_load1 _ _ rfl (.map 29 71) und_map rfl ⟨S, 1, none⟩ rfl (.map (some mb)) (hw.1.cell (i := 1) rfl)) ⟨S_19, Z_19, trivial⟩ ?_
      simp only [Act.put, List.setIfInBounds_toArray, List.set_cons_zero, List.set_cons_succ]
      refine h_take 4 (.agg (u8s (digS g)).toArray) rfl 44 rfl (by kernel_rfl) (by kernel_rfl) (by kernel_rfl) (by kernel_rfl) (fun _ _ _ h => h) (fun w' hw => run_op_load _ _ rfl Z (0) rfl (u8s (digS g)) (((Has.refl _)).range hw.2.1) ((szH KG.out))) ⟨S_19, Z_19, trivial⟩ ?_
      simp only [Act.put, List.setIfInBounds_toArray, List.set_cons_zero, List.set_cons_succ]
      refine h_one (i := 5) (by kernel_rfl) (Sl.o_deleteK rfl rfl (by kernel_rfl) _ _ _ rfl rfl (digS g) HHG.out rfl M_19 hash_keys und_map ?_)
      intro yD hMD oD
      rw [ent_filter] at hMD
      have hA3 : SAt yD (fun k => F k ∨ k = X) S r mb pin ((E ++ [(x, X)]).filter fun p : Sta × Nat => decide (digS p.1 ≠ digS g)) := by
        have hA := A_19
        exact ⟨hA.row.only oD nSm, hMD, fun p hp => (hA.st p (List.mem_filter.1 hp).1).only oD (st_ne_m hA (List.mem_filter.1 hp).1), fun p hp => hA.ok p (List.mem_filter.1 hp).1, hA.pok, hA.fS, hA.fm, fun p hp => hA.fE p (List.mem_filter.1 hp).1, hA.lies.mono oD.size⟩
      have HD2 := Lib.hid (HD.out X (ent_nodup A_19))
      clear A_19
      clear M_19
      have S_20 : Row yD S 67 (pcs r mb pin) := S_19.only oD nSm
      have R_20 : Row yD R 29 (u8s zh) := R_19.only oD nRm
      have Z_20 : Row yD Z 29 (u8s (digS g)) := Z_19.only oD nZm
      have bel_20 : Chg F w yD := bel_19.only oD (fm)
      clear S_19 R_19 Z_19 bel_19 oD
      refine ⟨⟨S_20, Z_20, trivial⟩, ?_⟩
      refine wpAnyH_done (by kernel_rfl) ?_ _
      go_wp2_with (first
        | ((with_reducible refine at_slot 45 ?_); (refine arm_load (o := ⟨some 45, _, _, _, _, _⟩) rfl _ _ rfl Z 0 rfl (u8s (digS g)) ((Has.refl _).range Z_20) (szH KG.out) ?_); try simp only [Act.put, List.setIfInBounds_toArray, List.set_cons_zero, List.set_cons_succ])
        | ((with_reducible refine arm_store (o := ⟨none, _, _, _, _, _⟩) rfl _ _ _ rfl R 0 rfl (u8s (digS g)) rfl _ _ (R_20) (fitH KG.out) (u8s_one _) (szH KG.out) ?_); intro y9 hy9 oy9 sy9; try simp only [Act.put, List.setIfInBounds_toArray, List.set_cons_zero, List.set_cons_succ]))
      have hc9 := bel_20.new oy9 geR
      have hA9 := hA3.only oy9 nRF.out
      exact bodyPost_ret (result_row2 (p := 6) (u := 7) (ty := 29) (t := 29) (by kernel_rfl) _ _ R (u8s (digS g)) (.bool true) rfl rfl (hy9.congr (allH KG.out)) (szH KG.out)) rfl ⟨rfl, ⟨_, _, hA9, HD2.out, GR.out⟩, hc9⟩
end Go.Proofs.YtnjmocobncncdaaDoor.So

/-
  The contracts of the store's Keys, Put and Keep. Over this seat's translation.
-/
namespace Go.Proofs.YtnjmocobncncdaaDoor.So
open Go.ChangeShapes Go.WideShapes Go.ChangeAt Go.RowKit Go.Proofs.YtnjmocobncncdaaDoor.Mem Go.Proofs.YtnjmocobncncdaaDoor.Bt Go.Proofs.YtnjmocobncncdaaDoor.Km
open Go.Proofs.YtnjmocobncncdaaDoor.Ep (H32 zh zh_ok Has h_len szH zH fitH allH one_app num32)
open Go.Proofs.YtnjmocobncncdaaDoor.Sl (Kind At bk)
open Go.Proofs.YtnjmocobncncdaaDoor.Sha (ks)
open Go.Proofs.YtnjmocobncncdaaDoor.Sa (Sta scs digS digS_ok sz_sta h_drw h_lngth)
open Go.Proofs.YtnjmocobncncdaaDoor.Od (Ky kcs keyN keyN_ok kcs_len kcs_one kcmp kval zk z_key sz_key fitK allK built_key compare_anyD)
set_option linter.unusedVariables false
set_option linter.unusedSimpArgs false

structure KyRel (w : World) (L : List Sta) (s i : Value) (wr : World) : Prop where
  ex : ∃ (k : Nat) (p : Option Addr) (c : Nat), k ≤ L.length ∧ i = .int .i64 (k : Int) ∧ s = .slice p k c ∧ Sl.Own Od.kK wr w.heap.size p c ((L.take k).map keyN)
  bel : Below w.heap.size w wr
structure KeysPost (w : World) (L : List Sta) (e : Ending) (w' : World) : Prop where
  ret : ∃ p c, e = .returned (.slice p L.length c) ∧ Sl.Own Od.kK w' w.heap.size p c (L.map keyN)
  bel : Below w.heap.size w w'
set_option maxHeartbeats 4000000 in
set_option maxRecDepth 100000 in
theorem keysE_any (F : Nat → Prop) (S r mb : Nat) (pin : Option (List Nat)) (E : Ents) (L : List Sta) (w : World) (hS : SAt w F S r mb pin E) (hL : Rise vK L) (hE : (E.map Prod.fst).Perm L) (hl : L.length ≤ 1000) :
    Calls Tryd.prog 13 #[.pointer (some ⟨S, 0, none⟩)] w (KeysPost w L) := by
  have CR := Lib.hid (fun w0 a => rising_any F S r mb pin E L w0 a hL hE hl)
  have HLL := Lib.hid hl
  have HB : Hid (∀ x ∈ L, ∃ b, (x, b) ∈ E) := Lib.hid fun x hx => by
    obtain ⟨p, hp, rfl⟩ := List.mem_map.1 (hE.mem_iff.2 hx)
    exact ⟨p.2, hp⟩
  have OK : Hid (∀ x ∈ L, x.Ok) := Lib.hid fun x hx => by
    obtain ⟨p, hp, rfl⟩ := List.mem_map.1 (hE.mem_iff.2 hx)
    exact hS.ok p hp
  have HS := Lib.hid hS
  clear hL hE hl hS
  go_enter Tryd.func13, Tryd.ntmps13
  go_wp2_with fail
  refine (CR.out _ HS.out).mono ?_
  rintro e y ⟨⟨p0, c0, rfl, hO⟩, hB0⟩
  have HO := Lib.hid hO
  have FA : Hid (∀ w', Below y.heap.size y w' → SAt w' F S r mb pin E) := Lib.hid fun w' hb => (HS.out.old hB0).old hb
  have FO : Hid (∀ w', Below y.heap.size y w' → Sl.Own kD w' w.heap.size p0 c0 (L.map digS)) := Lib.hid fun w' hb => hO.below hb
  have HB0 := Lib.hid hB0
  clear hO hB0 HS CR
  go_wp2_with fail
  try simp only [Act.put]
  have h0 : KyRel y L (.slice none 0 0) (.int .i64 0) y := ⟨⟨0, none, 0, Nat.zero_le _, rfl, rfl, Sl.Own.nil _ _⟩, Below.refl _ _⟩
  go_loopw [3, 9] (fun s i wr => KyRel y L s i wr) (fun _ i _ => L.length - (intOf i).toNat)
  case atStart => exact h0
  case round =>
    clear h0
    obtain ⟨⟨k, mp, mc, hk, rfl, rfl, hW⟩, bel⟩ := hrel
    have hL := HLL.out
    by_cases hlt : k < L.length
    · obtain ⟨x, hx⟩ : ∃ x, L[k]? = some x := ⟨_, List.getElem?_eq_getElem hlt⟩
      obtain ⟨b, hxb⟩ := HB.out x (List.mem_of_getElem? hx)
      have hA := FA.out wr bel
      have hOw := FO.out wr bel
      have hne : L.map digS ≠ [] := by intro e; have := congrArg List.length e; rw [List.length_map, List.length_nil] at this; omega
      obtain ⟨g, cur, rfl, _⟩ := own_row hOw hne
      have hAt := hOw.at fD
      have hxd : (L.map digS)[k]? = some (digS x) := by rw [List.getElem?_map, hx]; rfl
      have HXD := Lib.hid hxd; have HX := Lib.hid hx; have KH := Lib.hid (digS_ok x)
      have KK := Lib.hid (keyN_ok (OK.out x (List.mem_of_getElem? hx)))
      have CK := Lib.hid (fun w0 a => key_any F S r mb pin E x b w0 a hxb)
      have ik : (k : Int) < (L.length : Int) := by omega
      have k1000 : k < 1000 := by omega
      clear hOw hne hxd hx hxb hL
      have bel0 : Chg (fun _ => False) y wr := Chg.of_below _ bel
      clear bel
      go_wp2_with (first
        | ((with_reducible refine at_slot 11 ?_); (refine arm_want (.pointer (some ⟨g, 0 + k * 32, none⟩)) 11 rfl (by kernel_rfl) (Sl.run_op_index fD _ _ rfl g 0 _ _ rfl .i64 _ rfl k rfl hlt _) ?_); try simp only [Act.put, List.setIfInBounds_toArray, List.set_cons_zero, List.set_cons_succ])
        | ((with_reducible refine at_slot 12 ?_); (refine arm_load (o := ⟨some 12, _, _, _, _, _⟩) rfl _ _ rfl g (0 + k * 32) rfl (u8s (digS x)) (at_range hAt HXD.out) (szH KH.out) ?_); try simp only [Act.put, List.setIfInBounds_toArray, List.set_cons_zero, List.set_cons_succ])
        | ((with_reducible refine at_slot 5 ?_); (refine arm_alloc (o := ⟨some 5, _, _, _, _, _⟩) rfl _ rfl (u8s zh) zH ?_); intro X v1a Xe hXa nX; try simp only [Act.put, List.setIfInBounds_toArray, List.set_cons_zero, List.set_cons_succ])
        | ((with_reducible refine arm_store (o := ⟨none, _, _, _, _, _⟩) rfl _ _ _ rfl X 0 rfl (u8s (digS x)) rfl _ _ hXa (fitH KH.out) (u8s_one _) (szH KH.out) ?_); intro v1 hXb oX sX; try simp only [Act.put, List.setIfInBounds_toArray, List.set_cons_zero, List.set_cons_succ])
        | ((with_reducible refine at_slot 15 ?_); (refine arm_load (o := ⟨some 15, _, _, _, _, _⟩) rfl _ _ rfl X 0 rfl (u8s (digS x)) ((Has.refl _).range (hXb.congr (allH KH.out))) (szH KH.out) ?_); try simp only [Act.put, List.setIfInBounds_toArray, List.set_cons_zero, List.set_cons_succ]))
      have lX : wr.heap.size ≤ X := by have := Xe.out; omega
      have bX : Below wr.heap.size wr v1 := below_only nX.below oX lX nX.below.size
      have rrX : Row v1 X 29 (u8s (digS x)) := hXb.congr (allH KH.out)
      have geX : y.heap.size ≤ X := Nat.le_trans bel0.size lX
      have lXx := lX
      clear hXa hXb nX oX sX Xe lX
      have A_2 : SAt v1 F S r mb pin E := hA.old bX
      have O_2 : Sl.At kD v1 (some ⟨g, 0, none⟩) (L.map digS) := hAt.below bX
      have W_2 : Sl.Own Od.kK v1 y.heap.size mp mc ((L.take k).map keyN) := hW.below bX
      have bel_2 : Chg (fun _ => False) y v1 := bel0.old bX
      clear hA hAt hW bel0 bX
      refine (CK.out _ A_2).mono ?_
      rintro e y3 ⟨rfl, hBD⟩
      have hB := hBD.below
      clear hBD
      have A_4 : SAt y3 F S r mb pin E := A_2.old hB
      have O_4 : Sl.At kD y3 (some ⟨g, 0, none⟩) (L.map digS) := O_2.below hB
      have W_4 : Sl.Own Od.kK y3 y.heap.size mp mc ((L.take k).map keyN) := W_2.below hB
      have X_4 : Row y3 X 29 (u8s (digS x)) := rrX.old hB
      have bel_4 : Chg (fun _ => False) y y3 := bel_2.old hB
      clear A_2 O_2 W_2 rrX bel_2 hB
      go_wp2_with (first
        | ((with_reducible refine at_slot 17 ?_); (refine Sl.arm_lit (K := Od.kK) (o := ⟨some 17, _, _, _, _, _⟩) rfl Od.fK [keyN x] (Sl.allOk_cons KK.out Sl.allOk_nil) (by simp) _ _ rfl rfl (by simp only [List.map_toArray, List.map_cons, List.map_nil]; rfl) ?_); intro Y vY Ye hY nY; try simp only [Act.put, List.setIfInBounds_toArray, List.set_cons_zero, List.set_cons_succ])
        | ((with_reducible refine at_slot 18 ?_); (refine Sl.arm_append (K := Od.kK) (o := ⟨some 18, _, _, _, _, _⟩) rfl Od.fK _ _ rfl (y.heap.size) (mp) _ mc ((L.take k).map keyN) (by rw [List.length_map, List.length_take]; omega) rfl (W_4.below nY.below) (some ⟨Y, 0, none⟩) 1 1 ([keyN x]) rfl rfl (Sl.At.row Od.fK (Sl.allOk_cons KK.out Sl.allOk_nil) hY (List.append_nil _).symm) (by simp) (by simp only [List.length_map, List.length_take, List.length_cons, List.length_nil]; omega) (by have := bel_4.size; have := nY.size; omega) ?_); intro mp2 mc2 vZ hO2 hBZ hkp hat; rw [show ((L.take k).map keyN ++ [keyN x]).length = k + 1 by simp only [List.length_append, List.length_map, List.length_take, List.length_cons, List.length_nil]; omega]; try simp only [Act.put, List.setIfInBounds_toArray, List.set_cons_zero, List.set_cons_succ]))
      have belZ : Below y.heap.size y vZ := ((bel_4.below (fun k hk => hk.elim) (Nat.le_refl _)).trans (nY.below.mono bel_4.size)).trans hBZ
      have hO3 : Sl.Own Od.kK vZ y.heap.size mp2 mc2 ((L.take (k + 1)).map keyN) := by
        rw [List.take_add_one, HX.out, List.map_append]
        exact hO2
      clear hO2 hBZ hkp hat Ye hY nY bel_4 A_4 O_4 W_4 X_4
      go_roundw
      case rel => exact ⟨⟨k + 1, mp2, mc2, by omega, by go_num, rfl, hO3⟩, belZ⟩
      case measure => simp [intOf]; omega
    · obtain rfl : k = L.length := by omega
      rw [List.take_length] at hW
      have HW := Lib.hid hW; have HBL := Lib.hid bel
      clear hW bel hL
      go_wp2_with fail
      go_ret
      exact ⟨⟨mp, mc, rfl, Sl.Own.low HW.out HB0.out.size⟩, HB0.out.trans (HBL.out.mono HB0.out.size)⟩
set_option maxHeartbeats 4000000 in
set_option maxRecDepth 100000 in
theorem sputE_any (F : Nat → Prop) (S r mb : Nat) (pin : Option (List Nat)) (E : Ents) (L : List Sta) (x : Sta) (w : World) (hS : SAt w F S r mb pin E) (kx : x.Ok) (hL : Rise vK L) (hE : (E.map Prod.fst).Perm L) (kL : ∀ y ∈ L, y.Ok) (hl : L.length ≤ r) (hr : 2 ≤ r ∧ r ≤ 100) (hk : w.rangeAt 0 0 (u32s ks)) :
    Calls Tryd.prog 12 #[.pointer (some ⟨S, 0, none⟩), .agg (scs x).toArray] w (SPutPost w F S r mb pin (putL r pin x L)) := by
  have hk1 : 0 < w.heap.size := range_lt hk (by simp [u32s, ks])
  have HKW : Hid (∀ w', Below w.heap.size w w' → w'.rangeAt 0 0 (u32s ks)) := Lib.hid fun w' hb => range_block hk (hb.block _ hk1)
  have KX := Lib.hid kx
  have LI := Lib.hid hS.lies
  have CH := Lib.hid (fun w0 h => Sa.shash_any x w0 kx h)
  have CP := Lib.hid (fun w0 a => sput_any F S r mb pin E L x w0 a kx hL hE kL hl hr)
  obtain ⟨q, hq⟩ : ∃ q, q = putL r pin x L := ⟨_, rfl⟩
  rw [← hq] at CP ⊢
  have KG : Hid (H32 ((q.2.map digS).getD zh)) := Lib.hid (by cases q.2 with | none => exact zh_ok | some g => exact digS_ok g)
  obtain ⟨d, hd⟩ : ∃ d, d = (q.2.map digS).getD zh := ⟨_, rfl⟩
  obtain ⟨v, hv⟩ : ∃ v, v = q.2.isSome := ⟨_, rfl⟩
  rw [← hd] at KG
  have HQ : Hid (∀ w1 F' e w', SPutPost w1 F' S r mb pin q e w' → e = .returned (.tuple #[.agg (u8s d).toArray, .bool v]) ∧ (∃ F2 E', SAt w' F2 S r mb pin E' ∧ (E'.map Prod.fst).Perm q.1 ∧ Grew F' F2 w1.heap.size) ∧ Chg F' w1 w') := Lib.hid fun w1 F' e w' h => ⟨by rw [hd, hv]; exact h.ret, h.at_, h.chg⟩
  have HR : Hid (∀ w', (∃ F2 E', SAt w' F2 S r mb pin E' ∧ (E'.map Prod.fst).Perm q.1 ∧ Grew F F2 w.heap.size) → Chg F w w' → SPutPost w F S r mb pin q (.returned (.tuple #[.agg (u8s d).toArray, .bool v])) w') := Lib.hid fun w' h c => ⟨by rw [hd, hv], h, c⟩
  clear hk hk1 kx hL hE kL hl hr hq hd hv
  go_enter Tryd.func12, Tryd.ntmps12
  have bel0 : Chg F w w := Chg.refl _ _
  go_wp2_with (first
    | ((with_reducible refine at_slot 3 ?_); (refine arm_box (o := ⟨some 3, _, _, _, _, _⟩) rfl _ _ rfl (scs x) rfl ?_); intro X v1 Xe hv1 nv1; try simp only [Act.put, List.setIfInBounds_toArray, List.set_cons_zero, List.set_cons_succ])
    | ((with_reducible refine at_slot 4 ?_); (refine arm_alloc (o := ⟨some 4, _, _, _, _, _⟩) rfl _ rfl (u8s zh) zH ?_); intro R v2 Re hv2 nv2; try simp only [Act.put, List.setIfInBounds_toArray, List.set_cons_zero, List.set_cons_succ]))
  have hbv1 := nv1.below
  have rrv1 : Row v1 X 41 (scs x) := hv1
  have hbv2 := nv2.below
  have rrv2 : Row v2 R 29 (u8s zh) := hv2
  have geX : w.heap.size ≤ X := by have := Xe.out; have := bel0.size; omega
  have lXx : w.heap.size ≤ X := by have := Xe.out; omega
  clear hv1 nv1 Xe
  have A_3 : SAt v1 F S r mb pin E := hS.old hbv1
  have Q_3 : v1.rangeAt 0 0 (u32s ks) := range_block (HKW.out _ (Below.refl _ _)) (hbv1.block _ (range_lt (HKW.out _ (Below.refl _ _)) (by simp [u32s, ks])))
  have bel_3 : Chg F w v1 := bel0.old hbv1
  clear hS bel0 hbv1
  have geR : w.heap.size ≤ R := by have := Re.out; have := bel_3.size; omega
  have ltXR : X < R := by have := Re.out; have := rrv1.lt; omega
  have lRx : v1.heap.size ≤ R := by have := Re.out; omega
  clear hv2 nv2 Re
  have A_4 : SAt v2 F S r mb pin E := A_3.old hbv2
  have Q_4 : v2.rangeAt 0 0 (u32s ks) := range_block Q_3 (hbv2.block _ (range_lt Q_3 (by simp [u32s, ks])))
  have X_4 : Row v2 X 41 (scs x) := rrv1.old hbv2
  have bel_4 : Chg F w v2 := bel_3.old hbv2
  clear A_3 Q_3 rrv1 bel_3 hbv2
  have nFX : Hid (¬ F X) := Lib.hid (fun q => Nat.lt_irrefl _ (Nat.lt_of_lt_of_le (LI.out _ q) geX))
  have nFR : Hid (¬ F R) := Lib.hid (fun q => Nat.lt_irrefl _ (Nat.lt_of_lt_of_le (LI.out _ q) geR))
  have nXR : X ≠ R := by omega
  refine wp_region_held (S := fun w' => Row w' X 41 (scs x) ∧ True) (by kernel_rfl) ?_
  change wpAnyH _ _ _ _ _ _ _ _ v2.drew
  have hd5 : Below v2.heap.size v2 v2.drew := (Below.refl _ _).drew
  have A_6 : SAt v2.drew F S r mb pin E := A_4.old hd5
  have Q_6 : v2.drew.rangeAt 0 0 (u32s ks) := range_block Q_4 (hd5.block _ (range_lt Q_4 (by simp [u32s, ks])))
  have X_6 : Row v2.drew X 41 (scs x) := X_4.old hd5
  have R_6 : Row v2.drew R 29 (u8s zh) := rrv2.old hd5
  have bel_6 : Chg F w v2.drew := bel_4.old hd5
  clear A_4 Q_4 X_4 rrv2 bel_4 hd5
  generalize v2.drew = yz5 at A_6 Q_6 X_6 R_6 bel_6 ⊢
  refine h_take 0 (.pointer (some ⟨S, 0, none⟩)) rfl 6 rfl (by kernel_rfl) (by kernel_rfl) (by kernel_rfl) (by kernel_rfl) (fun _ _ _ h => h) (fun w' _ => by kernel_rfl) ⟨X_6, trivial⟩ ?_
  simp only [Act.put, List.setIfInBounds_toArray, List.set_cons_zero, List.set_cons_succ]
  refine h_take 1 (.agg (scs x).toArray) rfl 7 rfl (by kernel_rfl) (by kernel_rfl) (by kernel_rfl) (by kernel_rfl) (fun _ _ _ h => h) (fun w' hw => run_op_load _ _ rfl X (0) rfl (scs x) (((Has.refl _)).range hw.1) ((sz_sta KX.out))) ⟨X_6, trivial⟩ ?_
  simp only [Act.put, List.setIfInBounds_toArray, List.set_cons_zero, List.set_cons_succ]
  refine h_take 3 (.agg (scs x).toArray) rfl 9 rfl (by kernel_rfl) (by kernel_rfl) (by kernel_rfl) (by kernel_rfl) (fun _ _ _ h => h) (fun w' hw => run_op_load _ _ rfl X (0) rfl (scs x) (((Has.refl _)).range hw.1) ((sz_sta KX.out))) ⟨X_6, trivial⟩ ?_
  simp only [Act.put, List.setIfInBounds_toArray, List.set_cons_zero, List.set_cons_succ]
  refine h_one (i := 2) (by kernel_rfl) (o_call rfl 8 rfl (by kernel_rfl) (run_op_call 7 _ _ rfl #[.agg (scs x).toArray] (by simp only [List.map_toArray, List.map_cons, List.map_nil]; rfl) Tryd.func7 (by kernel_rfl) (by kernel_rfl) _) (CH.out _ Q_6) ?_)
  rintro e y7 ⟨rfl, hB⟩
  have A_8 : SAt y7 F S r mb pin E := A_6.old hB
  have Q_8 : y7.rangeAt 0 0 (u32s ks) := range_block Q_6 (hB.block _ (range_lt Q_6 (by simp [u32s, ks])))
  have X_8 : Row y7 X 41 (scs x) := X_6.old hB
  have R_8 : Row y7 R 29 (u8s zh) := R_6.old hB
  have bel_8 : Chg F w y7 := bel_6.old hB
  clear A_6 Q_6 X_6 R_6 bel_6 hB
  refine ⟨_, rfl, ⟨X_8, trivial⟩, ?_⟩
  simp only [Act.put, List.setIfInBounds_toArray, List.set_cons_zero, List.set_cons_succ]
  clear Q_8
  have RLT := Lib.hid R_8.lt
  have GE := Lib.hid bel_8.size
  refine h_one (i := 4) (by kernel_rfl) (o_call rfl 10 rfl (by kernel_rfl) (run_op_call 23 _ _ rfl #[.pointer (some ⟨S, 0, none⟩), .agg (u8s (digS x)).toArray, .agg (scs x).toArray] (by simp only [List.map_toArray, List.map_cons, List.map_nil]; rfl) Tryd.func23 (by kernel_rfl) (by kernel_rfl) _) (CP.out _ A_8) ?_)
  rintro e y9 hpost
  obtain ⟨rfl, ⟨F2, E2, hA2, hE2, hG2⟩, hc⟩ := HQ.out _ _ _ _ hpost
  clear hpost
  have X_10 : Row y9 X 41 (scs x) := X_8.chg hc nFX.out
  have R_10 : Row y9 R 29 (u8s zh) := R_8.chg hc nFR.out
  have bel_10 : Chg F w y9 := bel_8.step hc
  clear X_8 R_8 bel_8 hc
  refine ⟨_, rfl, ⟨X_10, trivial⟩, ?_⟩
  simp only [Act.put, List.setIfInBounds_toArray, List.set_cons_zero, List.set_cons_succ]
  have nRF : Hid (¬ F2 R) := Lib.hid (fun q => (hG2 R q).elim nFR.out (fun z => Nat.lt_irrefl _ (Nat.lt_of_lt_of_le RLT.out z)))
  refine h_take 5 (.agg (u8s d).toArray) rfl 11 rfl (by kernel_rfl) (by kernel_rfl) (by kernel_rfl) (by kernel_rfl) (fun _ _ _ h => h) (fun w' _ => by kernel_rfl) ⟨X_10, trivial⟩ ?_
  simp only [Act.put, List.setIfInBounds_toArray, List.set_cons_zero, List.set_cons_succ]
  refine h_take 6 (.bool v) rfl 12 rfl (by kernel_rfl) (by kernel_rfl) (by kernel_rfl) (by kernel_rfl) (fun _ _ _ h => h) (fun w' _ => by kernel_rfl) ⟨X_10, trivial⟩ ?_
  simp only [Act.put, List.setIfInBounds_toArray, List.set_cons_zero, List.set_cons_succ]
  refine h_one (i := 7) (by kernel_rfl) (o_skip rfl rfl (by kernel_rfl) (run_op_store _ _ _ rfl R (0) rfl (u8s d) rfl _ _ R_10 (fitH KG.out) (u8s_one _) (szH KG.out)) ?_)
  have rq := row_setRow R_10 (lay (u8s zh) (0) (u8s d))
  have oq := Only.setRow R y9 (lay (u8s zh) (0) (u8s d)).toArray
  generalize y9.setRow R (lay (u8s zh) (0) (u8s d)).toArray = y11 at rq oq ⊢
  have X_12 : Row y11 X 41 (scs x) := X_10.only oq nXR
  have R_12 : Row y11 R 29 (u8s d) := rq.congr (allH KG.out)
  have A_12 : SAt y11 F2 S r mb pin E2 := hA2.only oq nRF.out
  have bel_12 : Chg F w y11 := bel_10.new oq (geR)
  clear X_10 R_10 hA2 bel_10 oq
  clear rq
  refine ⟨⟨X_12, trivial⟩, ?_⟩
  refine h_take 8 (.bool v) rfl 5 rfl (by kernel_rfl) (by kernel_rfl) (by kernel_rfl) (by kernel_rfl) (fun _ _ _ h => h) (fun w' _ => by kernel_rfl) ⟨X_12, trivial⟩ ?_
  simp only [Act.put, List.setIfInBounds_toArray, List.set_cons_zero, List.set_cons_succ]
  refine wpAnyH_done (by kernel_rfl) ?_ _
  go_wp2_with fail
  exact bodyPost_ret (result_row2 (p := 4) (u := 5) (ty := 29) (t := 29) (by kernel_rfl) _ _ R (u8s d) (.bool v) rfl rfl R_12 (szH KG.out)) rfl (HR.out _ ⟨F2, E2, A_12, hE2, hG2.less GE.out⟩ bel_12)
set_option maxHeartbeats 4000000 in
set_option maxRecDepth 100000 in
theorem skeepE_any (F : Nat → Prop) (S r mb : Nat) (pin : Option (List Nat)) (E : Ents) (L : List Sta) (x : Sta) (w : World) (hS : SAt w F S r mb pin E) (kx : x.Ok) (hL : Rise vK L) (hE : (E.map Prod.fst).Perm L) (kL : ∀ y ∈ L, y.Ok) (hl : L.length ≤ r) (hr : 2 ≤ r ∧ r ≤ 100) (hk : w.rangeAt 0 0 (u32s ks)) :
    Calls Tryd.prog 9 #[.pointer (some ⟨S, 0, none⟩), .agg (scs x).toArray] w (SPutPost w F S r mb (some (digS x)) (putL r (some (digS x)) x L)) := by
  have hk1 : 0 < w.heap.size := range_lt hk (by simp [u32s, ks])
  have HKW : Hid (∀ w', Below w.heap.size w w' → w'.rangeAt 0 0 (u32s ks)) := Lib.hid fun w' hb => range_block hk (hb.block _ hk1)
  have KX := Lib.hid kx
  have KH := Lib.hid (digS_ok x)
  have LI := Lib.hid hS.lies
  have CH := Lib.hid (fun w0 h => Sa.shash_any x w0 kx h)
  have CI := Lib.hid (fun w0 a => spinIn_any F S r mb pin E (digS x) w0 a (digS_ok x))
  have CP := Lib.hid (fun w0 a => sput_any F S r mb (some (digS x)) E L x w0 a kx hL hE kL hl hr)
  obtain ⟨q, hq⟩ : ∃ q, q = putL r (some (digS x)) x L := ⟨_, rfl⟩
  rw [← hq] at CP ⊢
  have KG : Hid (H32 ((q.2.map digS).getD zh)) := Lib.hid (by cases q.2 with | none => exact zh_ok | some g => exact digS_ok g)
  obtain ⟨d, hd⟩ : ∃ d, d = (q.2.map digS).getD zh := ⟨_, rfl⟩
  obtain ⟨v, hv⟩ : ∃ v, v = q.2.isSome := ⟨_, rfl⟩
  rw [← hd] at KG
  have HQ : Hid (∀ w1 F' e w', SPutPost w1 F' S r mb (some (digS x)) q e w' → e = .returned (.tuple #[.agg (u8s d).toArray, .bool v]) ∧ (∃ F2 E', SAt w' F2 S r mb (some (digS x)) E' ∧ (E'.map Prod.fst).Perm q.1 ∧ Grew F' F2 w1.heap.size) ∧ Chg F' w1 w') := Lib.hid fun w1 F' e w' h => ⟨by rw [hd, hv]; exact h.ret, h.at_, h.chg⟩
  have HR : Hid (∀ w', (∃ F2 E', SAt w' F2 S r mb (some (digS x)) E' ∧ (E'.map Prod.fst).Perm q.1 ∧ Grew F F2 w.heap.size) → Chg F w w' → SPutPost w F S r mb (some (digS x)) q (.returned (.tuple #[.agg (u8s d).toArray, .bool v])) w') := Lib.hid fun w' h c => ⟨by rw [hd, hv], h, c⟩
  clear hk hk1 kx hL hE kL hl hr hq hd hv
  go_enter Tryd.func9, Tryd.ntmps9
  have bel0 : Chg F w w := Chg.refl _ _
  go_wp2_with (first
    | ((with_reducible refine at_slot 3 ?_); (refine arm_box (o := ⟨some 3, _, _, _, _, _⟩) rfl _ _ rfl (scs x) rfl ?_); intro X v1 Xe hv1 nv1; try simp only [Act.put, List.setIfInBounds_toArray, List.set_cons_zero, List.set_cons_succ])
    | ((with_reducible refine at_slot 4 ?_); (refine arm_alloc (o := ⟨some 4, _, _, _, _, _⟩) rfl _ rfl (u8s zh) zH ?_); intro R v2 Re hv2 nv2; try simp only [Act.put, List.setIfInBounds_toArray, List.set_cons_zero, List.set_cons_succ])
    | ((with_reducible refine at_slot 7 ?_); (refine arm_load (o := ⟨some 7, _, _, _, _, _⟩) rfl _ _ rfl X 0 rfl (scs x) ((Has.refl _).range (hv1.old nv2.below)) (sz_sta KX.out) ?_); try simp only [Act.put, List.setIfInBounds_toArray, List.set_cons_zero, List.set_cons_succ]))
  have hbv1 := nv1.below
  have rrv1 : Row v1 X 41 (scs x) := hv1
  have hbv2 := nv2.below
  have rrv2 : Row v2 R 29 (u8s zh) := hv2
  have geX : w.heap.size ≤ X := by have := Xe.out; have := bel0.size; omega
  have lXx : w.heap.size ≤ X := by have := Xe.out; omega
  clear hv1 nv1 Xe
  have A_3 : SAt v1 F S r mb pin E := hS.old hbv1
  have Q_3 : v1.rangeAt 0 0 (u32s ks) := range_block (HKW.out _ (Below.refl _ _)) (hbv1.block _ (range_lt (HKW.out _ (Below.refl _ _)) (by simp [u32s, ks])))
  have bel_3 : Chg F w v1 := bel0.old hbv1
  clear hS bel0 hbv1
  have geR : w.heap.size ≤ R := by have := Re.out; have := bel_3.size; omega
  have ltXR : X < R := by have := Re.out; have := rrv1.lt; omega
  have lRx : v1.heap.size ≤ R := by have := Re.out; omega
  clear hv2 nv2 Re
  have A_4 : SAt v2 F S r mb pin E := A_3.old hbv2
  have Q_4 : v2.rangeAt 0 0 (u32s ks) := range_block Q_3 (hbv2.block _ (range_lt Q_3 (by simp [u32s, ks])))
  have X_4 : Row v2 X 41 (scs x) := rrv1.old hbv2
  have bel_4 : Chg F w v2 := bel_3.old hbv2
  clear A_3 Q_3 rrv1 bel_3 hbv2
  have nFX : Hid (¬ F X) := Lib.hid (fun q => Nat.lt_irrefl _ (Nat.lt_of_lt_of_le (LI.out _ q) geX))
  have nFR : Hid (¬ F R) := Lib.hid (fun q => Nat.lt_irrefl _ (Nat.lt_of_lt_of_le (LI.out _ q) geR))
  refine (CH.out _ Q_4).mono ?_
  rintro e y5 ⟨rfl, hB⟩
  have A_6 : SAt y5 F S r mb pin E := A_4.old hB
  have Q_6 : y5.rangeAt 0 0 (u32s ks) := range_block Q_4 (hB.block _ (range_lt Q_4 (by simp [u32s, ks])))
  have X_6 : Row y5 X 41 (scs x) := X_4.old hB
  have R_6 : Row y5 R 29 (u8s zh) := rrv2.old hB
  have bel_6 : Chg F w y5 := bel_4.old hB
  clear A_4 Q_4 X_4 rrv2 bel_4 hB
  clear Q_6
  go_wp2_with (first
    | ((with_reducible refine at_slot 6 ?_); (refine arm_alloc (o := ⟨some 6, _, _, _, _, _⟩) rfl _ rfl (u8s zh) zH ?_); intro G v7a Ge hGa nG; try simp only [Act.put, List.setIfInBounds_toArray, List.set_cons_zero, List.set_cons_succ])
    | ((with_reducible refine arm_store (o := ⟨none, _, _, _, _, _⟩) rfl _ _ _ rfl G 0 rfl (u8s (digS x)) rfl _ _ hGa (fitH KH.out) (u8s_one _) (szH KH.out) ?_); intro v7 hGb oG sG; try simp only [Act.put, List.setIfInBounds_toArray, List.set_cons_zero, List.set_cons_succ]; refine fpause ?_; try simp only [Act.put, List.setIfInBounds_toArray, List.set_cons_zero, List.set_cons_succ]))
  have lG : y5.heap.size ≤ G := by have := Ge.out; omega
  have bG : Below y5.heap.size y5 v7 := below_only nG.below oG lG nG.below.size
  have rrG : Row v7 G 29 (u8s (digS x)) := hGb.congr (allH KH.out)
  have geG : w.heap.size ≤ G := Nat.le_trans bel_6.size lG
  have lGx := lG
  clear hGa hGb nG oG sG Ge lG
  have A_8 : SAt v7 F S r mb pin E := A_6.old bG
  have X_8 : Row v7 X 41 (scs x) := X_6.old bG
  have R_8 : Row v7 R 29 (u8s zh) := R_6.old bG
  have bel_8 : Chg F w v7 := bel_6.old bG
  clear A_6 X_6 R_6 bel_6 bG
  refine fgo ?_
  have nFG : Hid (¬ F G) := Lib.hid (fun q => Nat.lt_irrefl _ (Nat.lt_of_lt_of_le (LI.out _ q) geG))
  go_wp2_with (first
    | ((with_reducible refine at_slot 10 ?_); (refine arm_load (o := ⟨some 10, _, _, _, _, _⟩) rfl _ _ rfl G 0 rfl (u8s (digS x)) ((Has.refl _).range rrG) (szH KH.out) ?_); try simp only [Act.put, List.setIfInBounds_toArray, List.set_cons_zero, List.set_cons_succ]))
  refine (CI.out _ A_8).mono ?_
  rintro e y9 ⟨rfl, hA1, hc⟩
  have X_10 : Row y9 X 41 (scs x) := X_8.chg hc nFX.out
  have R_10 : Row y9 R 29 (u8s zh) := R_8.chg hc nFR.out
  have G_10 : Row y9 G 29 (u8s (digS x)) := rrG.chg hc nFG.out
  have bel_10 : Chg F w y9 := bel_8.step hc
  clear X_8 R_8 rrG bel_8 hc
  go_wp2_with (first
    | ((with_reducible refine at_slot 13 ?_); (refine arm_load (o := ⟨some 13, _, _, _, _, _⟩) rfl _ _ rfl G 0 rfl (u8s (digS x)) ((Has.refl _).range G_10) (szH KH.out) ?_); try simp only [Act.put, List.setIfInBounds_toArray, List.set_cons_zero, List.set_cons_succ])
    | ((with_reducible refine at_slot 14 ?_); (refine arm_load (o := ⟨some 14, _, _, _, _, _⟩) rfl _ _ rfl X 0 rfl (scs x) ((Has.refl _).range X_10) (sz_sta KX.out) ?_); try simp only [Act.put, List.setIfInBounds_toArray, List.set_cons_zero, List.set_cons_succ]))
  have GE := Lib.hid bel_10.size
  have RLT := Lib.hid R_10.lt
  refine (CP.out _ hA1).mono ?_
  rintro e y11 hpost
  obtain ⟨rfl, ⟨F2, E2, hA2, hE2, hG2⟩, hc⟩ := HQ.out _ _ _ _ hpost
  clear hpost
  have X_12 : Row y11 X 41 (scs x) := X_10.chg hc nFX.out
  have R_12 : Row y11 R 29 (u8s zh) := R_10.chg hc nFR.out
  have G_12 : Row y11 G 29 (u8s (digS x)) := G_10.chg hc nFG.out
  have bel_12 : Chg F w y11 := bel_10.step hc
  clear X_10 R_10 G_10 bel_10 hc
  have nRF : Hid (¬ F2 R) := Lib.hid (fun q => (hG2 R q).elim nFR.out (fun z => Nat.lt_irrefl _ (Nat.lt_of_lt_of_le RLT.out z)))
  go_wp2_with (first
    | ((with_reducible refine arm_store (o := ⟨none, _, _, _, _, _⟩) rfl _ _ _ rfl R 0 rfl (u8s d) rfl _ _ (R_12) (fitH KG.out) (u8s_one _) (szH KG.out) ?_); intro y9 hy9 oy9 sy9; try simp only [Act.put, List.setIfInBounds_toArray, List.set_cons_zero, List.set_cons_succ]))
  have hc9 := bel_12.new oy9 geR
  have hA9 := hA2.only oy9 nRF.out
  exact bodyPost_ret (result_row2 (p := 4) (u := 5) (ty := 29) (t := 29) (by kernel_rfl) _ _ R (u8s d) (.bool v) rfl rfl (hy9.congr (allH KG.out)) (szH KG.out)) rfl (HR.out _ ⟨F2, E2, hA9, hE2, hG2.less GE.out⟩ hc9)
end Go.Proofs.YtnjmocobncncdaaDoor.So

/-
  The store's functions, told by what is kept in the order of the keys; the states of layer 19's awake. Over this seat's translation.
-/
namespace Go.Proofs.YtnjmocobncncdaaDoor.So
open Go.ChangeShapes Go.WideShapes Go.ChangeAt Go.RowKit Go.Proofs.YtnjmocobncncdaaDoor.Mem Go.Proofs.YtnjmocobncncdaaDoor.Bt Go.Proofs.YtnjmocobncncdaaDoor.Km
open Go.Proofs.YtnjmocobncncdaaDoor.Ep (H32 zh zh_ok Has h_len)
open Go.Proofs.YtnjmocobncncdaaDoor.Sha (ks)
open Go.Proofs.YtnjmocobncncdaaDoor.Sa (Sta scs digS digS_ok zs zs_ok)
open Go.Proofs.YtnjmocobncncdaaDoor.Od (Ky kcs keyN keyN_ok kval)
set_option linter.unusedVariables false
set_option linter.unusedSimpArgs false

/-- What is told of a digest. -/
def getS (L : List Sta) (h : List Nat) : Option Sta := L.find? fun y => decide (digS y = h)
theorem get_has {L : List Sta} {h : List Nat} : (getS L h).isSome = hasB h L := by
  unfold getS hasB
  induction L with
  | nil => rfl
  | cons x L ih =>
    rw [List.find?_cons, List.any_cons]
    by_cases e : digS x = h
    · simp [e]
    · rw [decide_eq_false e, Bool.false_or]; exact ih
theorem get_some {L : List Sta} {h : List Nat} {x : Sta} (e : getS L h = some x) : x ∈ L ∧ digS x = h :=
  ⟨List.mem_of_find?_eq_some e, by have := List.find?_some e; exact of_decide_eq_true this⟩
theorem get_none' {L : List Sta} {h : List Nat} (e : getS L h = none) : ∀ y ∈ L, digS y ≠ h := fun y hy q => by
  have := List.find?_eq_none.1 e y hy
  exact this (decide_eq_true q)
theorem put_sok {r : Nat} {pin : Option (List Nat)} {L : List Sta} (k : SOk vK digS r pin L) {x : Sta} (kx : x.Ok) (kL : ∀ y ∈ L, y.Ok) : SOk vK digS r pin (putL r pin x L).1 := by
  unfold putL
  by_cases h : hasB (digS x) L = true
  · rw [if_pos h]; exact k
  · rw [if_neg h]
    exact less_ok (laid_new k (fun q => h (has_true.2 q)) kx kL)
theorem keep_sok {r : Nat} {pin : Option (List Nat)} {L : List Sta} (k : SOk vK digS r pin L) {x : Sta} (kx : x.Ok) (kL : ∀ y ∈ L, y.Ok) : SOk vK digS r (some (digS x)) (putL r (some (digS x)) x L).1 := by
  unfold putL
  by_cases h : hasB (digS x) L = true
  · rw [if_pos h]
    exact ⟨k.up, k.dg, k.len, k.two, fun p hp => by cases hp; exact has_true.1 h⟩
  · rw [if_neg h]
    exact less_ok (laid_pin (laid_new k (fun q => h (has_true.2 q)) kx kL) ⟨x, ins_mem.2 (.inl rfl), rfl⟩)
structure PPost (w : World) (F : Nat → Prop) (S r : Nat) (pin : Option (List Nat)) (q : List Sta × Option Sta) (e : Ending) (w' : World) : Prop where
  ret : e = .returned (.tuple #[.agg (u8s ((q.2.map digS).getD zh)).toArray, .bool q.2.isSome])
  at_ : ∃ F', PAt w' F' S r pin q.1 ∧ Grew F F' w.heap.size
  chg : Chg F w w'
section
variable {F : Nat → Prop} {S r : Nat} {pin : Option (List Nat)} {L : List Sta} {w : World}
theorem pput_any (x : Sta) (hP : PAt w F S r pin L) (kx : x.Ok) (hr : r ≤ 100) (hk : w.rangeAt 0 0 (u32s ks)) :
    Calls Tryd.prog 12 #[.pointer (some ⟨S, 0, none⟩), .agg (scs x).toArray] w (PPost w F S r pin (putL r pin x L)) := by
  have kL := hP.states
  have ok := hP.ok
  obtain ⟨mb, E, hS, hE⟩ := hP.ex
  refine (sputE_any F S r mb pin E L x w hS kx ok.up hE kL ok.len ⟨ok.two, hr⟩ hk).mono fun e w' h => ?_
  obtain ⟨F', E', h1, h2, h3⟩ := h.at_
  exact ⟨h.ret, ⟨F', ⟨⟨mb, E', h1, h2⟩, put_sok ok kx kL⟩, h3⟩, h.chg⟩
theorem pkeep_any (x : Sta) (hP : PAt w F S r pin L) (kx : x.Ok) (hr : r ≤ 100) (hk : w.rangeAt 0 0 (u32s ks)) :
    Calls Tryd.prog 9 #[.pointer (some ⟨S, 0, none⟩), .agg (scs x).toArray] w (PPost w F S r (some (digS x)) (putL r (some (digS x)) x L)) := by
  have kL := hP.states
  have ok := hP.ok
  obtain ⟨mb, E, hS, hE⟩ := hP.ex
  refine (skeepE_any F S r mb pin E L x w hS kx ok.up hE kL ok.len ⟨ok.two, hr⟩ hk).mono fun e w' h => ?_
  obtain ⟨F', E', h1, h2, h3⟩ := h.at_
  exact ⟨h.ret, ⟨F', ⟨⟨mb, E', h1, h2⟩, keep_sok ok kx kL⟩, h3⟩, h.chg⟩
theorem pget_any (h : List Nat) (hh : H32 h) (hP : PAt w F S r pin L) :
    Calls Tryd.prog 11 #[.pointer (some ⟨S, 0, none⟩), .agg (u8s h).toArray] w fun e w' => e = .returned (.tuple #[.agg (scs ((getS L h).getD zs)).toArray, .bool (hasB h L)]) ∧ Below w.heap.size w w' := by
  obtain ⟨mb, E, hS, hE⟩ := hP.ex
  rw [← get_has]
  cases e : getS L h with
  | none => exact sget_none F S r mb pin E h hh w hS fun p hp => get_none' e _ (hE.mem_iff.1 (List.mem_map.2 ⟨p, hp, rfl⟩))
  | some x =>
    obtain ⟨h1, rfl⟩ := get_some e
    obtain ⟨p, hp, rfl⟩ := List.mem_map.1 (hE.mem_iff.2 h1)
    exact sget_some F S r mb pin E p.1 p.2 w hS hp
theorem ppin_any (h : List Nat) (hh : H32 h) (hP : PAt w F S r pin L) :
    Calls Tryd.prog 8 #[.pointer (some ⟨S, 0, none⟩), .agg (u8s h).toArray] w fun e w' => e = .returned (.bool (hasB h L)) ∧ PAt w' F S r (if hasB h L = true then some h else pin) L ∧ Chg F w w' := by
  have ok := hP.ok
  obtain ⟨mb, E, hS, hE⟩ := hP.ex
  by_cases hb : hasB h L = true
  · obtain ⟨p, hp, rfl⟩ := in_has hE hb
    rw [if_pos hb, hb]
    exact (spin_some F S r mb pin E p.1 p.2 w hS hp).mono fun e w' q => ⟨q.ret, ⟨⟨mb, E, q.at_, hE⟩, ⟨ok.up, ok.dg, ok.len, ok.two, fun z hz => by cases hz; exact has_true.1 hb⟩⟩, q.chg⟩
  · rw [if_neg hb, Bool.eq_false_iff.2 hb]
    exact (spin_none F S r mb pin E h hh w hS (no_has hE hb)).mono fun e w' q => ⟨q.ret, ⟨⟨mb, E, q.at_, hE⟩, ok⟩, q.chg⟩
theorem ppinned_any (hP : PAt w F S r pin L) :
    Calls Tryd.prog 10 #[.pointer (some ⟨S, 0, none⟩)] w fun e w' => e = .returned (.tuple #[.agg (u8s (pin.getD zh)).toArray, .bool pin.isSome]) ∧ Below w.heap.size w w' := by
  obtain ⟨mb, E, hS, hE⟩ := hP.ex
  exact spinned_any F S r mb pin E w hS
theorem plen_any (hP : PAt w F S r pin L) :
    Calls Tryd.prog 14 #[.pointer (some ⟨S, 0, none⟩)] w fun e w' => e = .returned (.int .i64 (L.length : Int)) ∧ w = w' := by
  obtain ⟨mb, E, hS, hE⟩ := hP.ex
  rw [← hE.length_eq, List.length_map]
  exact slen_any F S r mb pin E w hS
theorem pkeys_any (hP : PAt w F S r pin L) (hr : r ≤ 100) :
    Calls Tryd.prog 13 #[.pointer (some ⟨S, 0, none⟩)] w (KeysPost w L) := by
  have ok := hP.ok
  obtain ⟨mb, E, hS, hE⟩ := hP.ex
  exact keysE_any F S r mb pin E L w hS ok.up hE (by have := ok.len; omega)
theorem ppin_ok (hP : PAt w F S r pin L) : H32 (pin.getD zh) := by
  obtain ⟨mb, E, hS, hE⟩ := hP.ex
  exact pin_ok' hS.pok
end
def stL (n : Nat) : Sta := ⟨zh, zh, zh, 0, n, 0, 0, 0, [0, 0, 0, 0], Ep.zd, Ep.zd⟩
theorem stL_ok {n : Nat} (h : n < 4294967296) : (stL n).Ok := ⟨zs_ok.prev, zs_ok.led, zs_ok.draw, zs_ok.slot, h, zs_ok.count, zs_ok.min, zs_ok.last, zs_ok.counts, zs_ok.clt, zs_ok.now, zs_ok.next⟩
theorem d5 : (digS (stL 5)).getD 0 0 = 238 := by kernel_rfl
theorem d6 : (digS (stL 6)).getD 0 0 = 83 := by kernel_rfl
theorem d4 : (digS (stL 4)).getD 0 0 = 187 := by kernel_rfl
theorem d1 : (digS (stL 1)).getD 0 0 = 93 := by kernel_rfl
theorem dig_ne {x y : Sta} {m n : Nat} (hx : (digS x).getD 0 0 = m) (hy : (digS y).getD 0 0 = n) (h : m ≠ n) : digS x ≠ digS y := fun e => h (by rw [← hx, ← hy, e])
theorem d56 : digS (stL 5) ≠ digS (stL 6) := dig_ne d5 d6 (by decide)
theorem d54 : digS (stL 5) ≠ digS (stL 4) := dig_ne d5 d4 (by decide)
theorem d64 : digS (stL 6) ≠ digS (stL 4) := dig_ne d6 d4 (by decide)
theorem d51 : digS (stL 5) ≠ digS (stL 1) := dig_ne d5 d1 (by decide)
theorem d61 : digS (stL 6) ≠ digS (stL 1) := dig_ne d6 d1 (by decide)
theorem v_len {m n : Nat} (hm : m < 4294967296) (h : m < n) : vK (stL m) < vK (stL n) := Od.kval_len (keyN_ok (stL_ok hm)) h
theorem v_not {m n : Nat} (hn : n < 4294967296) (h : n < m) : ¬ vK (stL m) < vK (stL n) := fun q => by have := v_len hn h; omega
theorem put1 : putL 2 none (stL 5) [] = ([stL 5], none) := rfl
theorem put2 : putL 2 none (stL 6) [stL 5] = ([stL 5, stL 6], none) := by
  unfold putL hasB
  rw [if_neg (by simp [d56])]
  unfold ins
  rw [if_pos (v_len (by decide) (by decide))]
  rfl
theorem put3 : putL 2 none (stL 4) [stL 5, stL 6] = ([stL 5, stL 6], some (stL 4)) := by
  unfold putL hasB
  rw [if_neg (by simp [d54, d64])]
  unfold ins
  rw [if_neg (v_not (by decide) (by decide))]
  rfl
theorem put4 : putL 2 (some (digS (stL 1))) (stL 1) [stL 5, stL 6] = ([stL 1, stL 6], some (stL 5)) := by
  unfold putL hasB
  rw [if_neg (by simp [d51, d61])]
  unfold ins
  rw [if_neg (v_not (by decide) (by decide))]
  unfold less out
  rw [if_pos (show some (digS (stL 1)) = (List.map digS [stL 1, stL 5, stL 6])[0]? from rfl)]
  rfl
theorem has5 : hasB (digS (stL 5)) [stL 5, stL 6] = true := by unfold hasB; simp
theorem has4 : hasB (digS (stL 4)) [stL 1, stL 6] = false := by
  have h1 : digS (stL 1) ≠ digS (stL 4) := dig_ne d1 d4 (by decide)
  unfold hasB
  simp [d64, h1]
theorem get5 : (getS [stL 5, stL 6] (digS (stL 5))).getD zs = stL 5 := by unfold getS; simp
end Go.Proofs.YtnjmocobncncdaaDoor.So
