/-
  The contracts of package verdict's giveUp and Put. Over this seat's translation.
-/
import Derived.Test.YtbpghogdjpobnaaVerLeaf
namespace Go.Proofs.Ytbpghogdjpobnaa.Vd
open Go.ChangeShapes Go.WideShapes Go.ChangeAt Go.RowKit Go.Proofs.Ytbpghogdjpobnaa.Mem Go.Proofs.Ytbpghogdjpobnaa.Bt Go.Proofs.Ytbpghogdjpobnaa.Km
open Go.Proofs.Ytbpghogdjpobnaa.Ep (H32 zh zh_ok Has h_len szH zH fitH allH one_app)
open Go.Proofs.Ytbpghogdjpobnaa.Sl (Kind Own At bk)
set_option linter.unusedVariables false
set_option linter.unusedSimpArgs false

theorem sz_slH : (Try.prog.info? 44).map (·.size) = some 1 := by kernel_rfl
theorem one_sl (p : Option Addr) (n c : Nat) : (Value.slice p n c).oneCell' = true := rfl
theorem lt_ccs (r mb : Nat) (p : Option Addr) (n c : Nat) : 2 < (ccs r mb p n c).length := Nat.lt_succ_self 2
theorem tail_v {r : Nat} {L : VL} (k : VOk r L) : VOk r L.tail :=
  ⟨by rw [keys_tail]; exact (List.tail_sublist _).nodup k.nd, by have := k.len; rw [List.length_tail]; omega, k.pos, fun x hx => k.ok x (List.mem_of_mem_tail (keys_tail L ▸ hx))⟩
structure GivePost (w : World) (F : Nat → Prop) (B r : Nat) (L : VL) (e : Ending) (w' : World) : Prop where
  ret : e = .returned (.tuple #[.agg (u8s (if L.length < r then zh else (keys L).headD zh)).toArray, .bool (decide (¬ L.length < r))])
  ex : ∃ F', CAt w' F' B r (if L.length < r then L else L.tail) ∧ Grew F F' w.heap.size
  chg : Chg F w w'
theorem del0_any (p : Option Addr) (cap : Nat) (l : List (List Nat)) (n : Nat) (w : World) (hown : Own kH w 0 p cap l) (hn : l.length = n + 1) :
    Calls Try.prog 19 #[.slice p (n + 1) cap, .int .i64 0, .int .i64 1] w (DelPost w p cap n l.tail) := by
  have h := del_any p cap l 0 n w hown (by omega) hn
  rw [List.eraseIdx_zero] at h
  exact h
set_option maxHeartbeats 4000000 in
set_option maxRecDepth 100000 in
theorem give_any (F : Nat → Prop) (B r : Nat) (L : VL) (w : World) (hC : CAt w F B r L) :
    Calls Try.prog 17 #[.pointer (some ⟨B, 0, none⟩)] w (GivePost w F B r L) := by
  have hok0 := hC.ok
  have hC0 := hC
  obtain ⟨⟨mb, p, cap, hB, hM, hO, fB, fm, fp⟩, hok, hli⟩ := hC
  by_cases hl : L.length < r
  · have HE : Hid ((if L.length < r then zh else (keys L).headD zh) = zh) := Lib.hid (if_pos hl)
    have HL : Hid ((if L.length < r then L else L.tail) = L) := Lib.hid (if_pos hl)
    have HD : Hid (decide (¬ L.length < r) = false) := Lib.hid (decide_eq_false (fun h => h hl))
    have d1 : decide (((keys L).length : Int) < (r : Int)) = true := decide_eq_true (by rw [keys_len]; omega)
    have HC := Lib.hid hC0
    generalize keys L = ks at d1 hB hO
    clear hl hok hli fp fB fm hO hM hok0 hC0
    go_enter Try.func17, Try.ntmps17
    have bel0 : Chg (fun _ => False) w w := Chg.refl _ _
    go_wp2_with (first
      | ((with_reducible refine at_slot 2 ?_); (refine arm_alloc (o := ⟨some 2, _, _, _, _, _⟩) rfl _ rfl (u8s zh) zH ?_); intro R v1 Re hv1 nv1; try simp only [Act.put, List.setIfInBounds_toArray, List.set_cons_zero, List.set_cons_succ]))
    have hbv1 := nv1.below
    have rrv1 : Row v1 R 32 (u8s zh) := hv1
    have geR : w.heap.size ≤ R := by have := Re.out; have := bel0.size; omega
    have lRx : w.heap.size ≤ R := by have := Re.out; omega
    clear hv1 nv1 Re
    have B_2 : Row v1 B 51 (ccs r mb p ks.length cap) := hB.old hbv1
    have bel_2 : Chg (fun _ => False) w v1 := bel0.old hbv1
    clear hB bel0 hbv1
    refine wp_region_held (S := fun w' => Row w' B 51 (ccs r mb p ks.length cap) ∧ True) (by kernel_rfl) ?_
    change wpAnyH _ _ _ _ _ _ _ _ v1.drew
    have hd3 : Below v1.heap.size v1 v1.drew := (Below.refl _ _).drew
    have B_4 : Row v1.drew B 51 (ccs r mb p ks.length cap) := B_2.old hd3
    have R_4 : Row v1.drew R 32 (u8s zh) := rrv1.old hd3
    have bel_4 : Chg (fun _ => False) w v1.drew := bel_2.old hd3
    clear B_2 rrv1 bel_2 hd3
    generalize v1.drew = yz3 at B_4 R_4 bel_4 ⊢
    refine h_take 0 (.pointer (some ⟨B, 0, none⟩)) rfl 5 rfl (by kernel_rfl) (by kernel_rfl) (by kernel_rfl) (by kernel_rfl) (fun _ _ _ h => h) (fun w' _ => by kernel_rfl) ⟨B_4, trivial⟩ ?_
    simp only [Act.put, List.setIfInBounds_toArray, List.set_cons_zero, List.set_cons_succ]
    refine h_take 1 (.pointer (some ⟨B, 0, none⟩)) rfl 6 rfl (by kernel_rfl) (by kernel_rfl) (by kernel_rfl) (by kernel_rfl) (fun _ _ _ h => h) (fun w' _ => by kernel_rfl) ⟨B_4, trivial⟩ ?_
    simp only [Act.put, List.setIfInBounds_toArray, List.set_cons_zero, List.set_cons_succ]
    refine h_take 2 (.pointer (some ⟨B, 2, none⟩)) rfl 7 rfl (by kernel_rfl) (by kernel_rfl) (by kernel_rfl) (by kernel_rfl) (fun _ _ _ h => h) (fun w' _ => by kernel_rfl) ⟨B_4, trivial⟩ ?_
    simp only [Act.put, List.setIfInBounds_toArray, List.set_cons_zero, List.set_cons_succ]
    refine h_take 3 (.slice p ks.length cap) rfl 8 rfl (by kernel_rfl) (by kernel_rfl) (by kernel_rfl) (by kernel_rfl) (fun _ _ _ h => h) (fun w' hw => run_op_load1 _ _ rfl (.slice 32) fH.und rfl ⟨B, 2, none⟩ rfl (.slice p ks.length cap) (hw.1.cell (i := 2) rfl)) ⟨B_4, trivial⟩ ?_
    simp only [Act.put, List.setIfInBounds_toArray, List.set_cons_zero, List.set_cons_succ]
    refine h_take 4 (.int .i64 (ks.length : Int)) rfl 9 rfl (by kernel_rfl) (by kernel_rfl) (by kernel_rfl) (by kernel_rfl) (fun _ _ _ h => h) (fun w' _ => Sl.run_op_lenK _ _ _ rfl fH.und _ _ _ rfl w') ⟨B_4, trivial⟩ ?_
    simp only [Act.put, List.setIfInBounds_toArray, List.set_cons_zero, List.set_cons_succ]
    refine h_take 5 (.pointer (some ⟨B, 0, none⟩)) rfl 10 rfl (by kernel_rfl) (by kernel_rfl) (by kernel_rfl) (by kernel_rfl) (fun _ _ _ h => h) (fun w' _ => by kernel_rfl) ⟨B_4, trivial⟩ ?_
    simp only [Act.put, List.setIfInBounds_toArray, List.set_cons_zero, List.set_cons_succ]
    refine h_take 6 (.pointer (some ⟨B, 0, none⟩)) rfl 11 rfl (by kernel_rfl) (by kernel_rfl) (by kernel_rfl) (by kernel_rfl) (fun _ _ _ h => h) (fun w' _ => by kernel_rfl) ⟨B_4, trivial⟩ ?_
    simp only [Act.put, List.setIfInBounds_toArray, List.set_cons_zero, List.set_cons_succ]
    refine h_take 7 (.pointer (some ⟨B, 0, none⟩)) rfl 12 rfl (by kernel_rfl) (by kernel_rfl) (by kernel_rfl) (by kernel_rfl) (fun _ _ _ h => h) (fun w' _ => by kernel_rfl) ⟨B_4, trivial⟩ ?_
    simp only [Act.put, List.setIfInBounds_toArray, List.set_cons_zero, List.set_cons_succ]
    refine h_take 8 (.int .i64 (r : Int)) rfl 13 rfl (by kernel_rfl) (by kernel_rfl) (by kernel_rfl) (by kernel_rfl) (fun _ _ _ h => h) (fun w' hw => run_op_load1 _ _ rfl (.int .i64) (by kernel_rfl) rfl ⟨B, 0, none⟩ rfl (.int .i64 (r : Int)) (hw.1.cell (i := 0) rfl)) ⟨B_4, trivial⟩ ?_
    simp only [Act.put, List.setIfInBounds_toArray, List.set_cons_zero, List.set_cons_succ]
    refine h_take 9 (.bool true) rfl 14 rfl (by kernel_rfl) (by kernel_rfl) (by kernel_rfl) (by kernel_rfl) (fun _ _ _ h => h) (fun w' _ => cmp_lss _ _ _ _ rfl .i64 (ks.length : Int) (r : Int) rfl rfl true d1 w') ⟨B_4, trivial⟩ ?_
    simp only [Act.put, List.setIfInBounds_toArray, List.set_cons_zero, List.set_cons_succ]
    refine wpAnyH_done (by kernel_rfl) ?_ _
    go_wp2_with (first
      | ((with_reducible refine at_slot 15 ?_); (refine arm_build (o := ⟨some 15, _, _, _, _, _⟩) rfl _ _ rfl (u8s zh) (by kernel_rfl) ?_); try simp only [Act.put, List.setIfInBounds_toArray, List.set_cons_zero, List.set_cons_succ])
      | ((with_reducible refine arm_store (o := ⟨none, _, _, _, _, _⟩) rfl _ _ _ rfl R 0 rfl (u8s zh) rfl _ _ R_4 (fitH zh_ok) (u8s_one _) (szH zh_ok) ?_); intro yS hS oS sS; try simp only [Act.put, List.setIfInBounds_toArray, List.set_cons_zero, List.set_cons_succ]))
    refine bodyPost_ret (result_row2 (p := 2) (u := 3) (ty := 32) (t := 32) (by kernel_rfl) _ _ R (u8s zh) (.bool false) rfl rfl (hS.congr (allH zh_ok)) (szH zh_ok)) rfl ?_
    have hc := bel_4.new oS geR
    exact ⟨by rw [HE.out, HD.out], ⟨F, by rw [HL.out]; exact HC.out.chg hc (fun k hk => hk.elim), Grew.refl _ _⟩, hc.more (fun k hk => hk.elim)⟩
  · have HE : Hid ((if L.length < r then zh else (keys L).headD zh) = (keys L).headD zh) := Lib.hid (if_neg hl)
    have HL : Hid ((if L.length < r then L else L.tail) = L.tail) := Lib.hid (if_neg hl)
    have HD : Hid (decide (¬ L.length < r) = true) := Lib.hid (decide_eq_true hl)
    have d1 : decide (((keys L).length : Int) < (r : Int)) = false := decide_eq_false (by rw [keys_len]; omega)
    obtain ⟨q, M, rfl⟩ : ∃ q M, L = q :: M := by
      cases L with
      | nil => exact absurd (show ([] : VL).length < r from hok.pos) hl
      | cons q M => exact ⟨q, M, rfl⟩
    have kq : H32 q.1 := hok.ok q.1 (by simp [keys])
    have HDL : Hid (delK (q :: M) q.1 = M) := Lib.hid (del_head hok.nd)
    have HOK : Hid (VOk r M) := Lib.hid (tail_v hok)
    have HLI := Lib.hid hli
    have KQ := Lib.hid kq
    have HHQ : Hid (hashOk q.1) := Lib.hid kq.len
    have CD : Hid (∀ w0, Own kH w0 0 p cap (keys (q :: M)) → Calls Try.prog 19 #[.slice p (keys (q :: M)).length cap, .int .i64 0, .int .i64 1] w0 (DelPost w0 p cap M.length (keys M))) := Lib.hid fun w0 h => by
      have := del0_any p cap (keys (q :: M)) M.length w0 h (by rw [keys_len]; rfl)
      rw [show (keys (q :: M)).length = M.length + 1 by rw [keys_len]; rfl]
      exact this
    obtain ⟨g, cs, rr, hp, _, hrow, hcs, hback⟩ := hO.as_row (by rw [keys_len]; exact Nat.succ_pos _)
    subst hp
    have hq0 : g < w.heap.size := hrow.lt
    have HQ : Hid (∀ w0, Row w0 g 32 cs → w0.rangeAt g 0 (u8s q.1)) := Lib.hid fun w0 h => h.range 0 _ (fun j v hj => by
      rw [hcs, Nat.zero_add, List.getElem?_append_left (by rw [Sl.all_len fH _ hok.ok, show kH.n = 32 from rfl, keys_len, List.length_cons]; have := (List.getElem?_eq_some_iff.1 hj).1; rw [h_len kq] at this; omega)]
      rw [show keys (q :: M) = q.1 :: keys M from rfl, Sl.all_cons, List.getElem?_append_left (List.getElem?_eq_some_iff.1 hj).1]
      exact hj)
    have KN : Hid (M.length = (keys M).length) := Lib.hid (keys_len M).symm
    have HFP : Hid (∀ k, bk (some ⟨g, 0, none⟩) = some k → F k) := Lib.hid fp
    have hgF : F g := fp g rfl
    have hlt0 : 0 < (keys (q :: M)).length := by rw [keys_len]; exact Nat.succ_pos _
    have KE : Hid ((keys (q :: M)).headD zh = q.1) := Lib.hid rfl
    have hlr : ((keys (q :: M)).length : Int) = (((q :: M).length : Nat) : Int) := by rw [keys_len]
    generalize hks : keys (q :: M) = ks at hB hO d1 CD hlt0 KE
    clear hl hok hli hlr hC0 hok0 hcs hback hks
    go_enter Try.func17, Try.ntmps17
    have bel0 : Chg F w w := Chg.refl _ _
    go_wp2_with (first
      | ((with_reducible refine at_slot 2 ?_); (refine arm_alloc (o := ⟨some 2, _, _, _, _, _⟩) rfl _ rfl (u8s zh) zH ?_); intro R v1 Re hv1 nv1; try simp only [Act.put, List.setIfInBounds_toArray, List.set_cons_zero, List.set_cons_succ]))
    have hbv1 := nv1.below
    have rrv1 : Row v1 R 32 (u8s zh) := hv1
    have geR : w.heap.size ≤ R := by have := Re.out; have := bel0.size; omega
    have lRx : w.heap.size ≤ R := by have := Re.out; omega
    clear hv1 nv1 Re
    have B_2 : Row v1 B 51 (ccs r mb (some ⟨g, 0, none⟩) ks.length cap) := hB.old hbv1
    have M_2 : VMap v1 mb (q :: M) := hM.old hbv1
    have O_2 : Own kH v1 0 (some ⟨g, 0, none⟩) cap ks := hO.below hbv1
    have g_2 : Row v1 g 32 (cs) := hrow.old hbv1
    have bel_2 : Chg F w v1 := bel0.old hbv1
    clear hB hM hO hrow bel0 hbv1
    refine wp_region_held (S := fun w' => Row w' B 51 (ccs r mb (some ⟨g, 0, none⟩) ks.length cap) ∧ True) (by kernel_rfl) ?_
    change wpAnyH _ _ _ _ _ _ _ _ v1.drew
    have hd3 : Below v1.heap.size v1 v1.drew := (Below.refl _ _).drew
    have B_4 : Row v1.drew B 51 (ccs r mb (some ⟨g, 0, none⟩) ks.length cap) := B_2.old hd3
    have M_4 : VMap v1.drew mb (q :: M) := M_2.old hd3
    have O_4 : Own kH v1.drew 0 (some ⟨g, 0, none⟩) cap ks := O_2.below hd3
    have g_4 : Row v1.drew g 32 (cs) := g_2.old hd3
    have R_4 : Row v1.drew R 32 (u8s zh) := rrv1.old hd3
    have bel_4 : Chg F w v1.drew := bel_2.old hd3
    clear B_2 M_2 O_2 g_2 rrv1 bel_2 hd3
    generalize v1.drew = yz3 at B_4 M_4 O_4 g_4 R_4 bel_4 ⊢
    refine h_take 0 (.pointer (some ⟨B, 0, none⟩)) rfl 5 rfl (by kernel_rfl) (by kernel_rfl) (by kernel_rfl) (by kernel_rfl) (fun _ _ _ h => h) (fun w' _ => by kernel_rfl) ⟨B_4, trivial⟩ ?_
    simp only [Act.put, List.setIfInBounds_toArray, List.set_cons_zero, List.set_cons_succ]
    refine h_take 1 (.pointer (some ⟨B, 0, none⟩)) rfl 6 rfl (by kernel_rfl) (by kernel_rfl) (by kernel_rfl) (by kernel_rfl) (fun _ _ _ h => h) (fun w' _ => by kernel_rfl) ⟨B_4, trivial⟩ ?_
    simp only [Act.put, List.setIfInBounds_toArray, List.set_cons_zero, List.set_cons_succ]
    refine h_take 2 (.pointer (some ⟨B, 2, none⟩)) rfl 7 rfl (by kernel_rfl) (by kernel_rfl) (by kernel_rfl) (by kernel_rfl) (fun _ _ _ h => h) (fun w' _ => by kernel_rfl) ⟨B_4, trivial⟩ ?_
    simp only [Act.put, List.setIfInBounds_toArray, List.set_cons_zero, List.set_cons_succ]
    refine h_take 3 (.slice (some ⟨g, 0, none⟩) ks.length cap) rfl 8 rfl (by kernel_rfl) (by kernel_rfl) (by kernel_rfl) (by kernel_rfl) (fun _ _ _ h => h) (fun w' hw => run_op_load1 _ _ rfl (.slice 32) fH.und rfl ⟨B, 2, none⟩ rfl (.slice (some ⟨g, 0, none⟩) ks.length cap) (hw.1.cell (i := 2) rfl)) ⟨B_4, trivial⟩ ?_
    simp only [Act.put, List.setIfInBounds_toArray, List.set_cons_zero, List.set_cons_succ]
    refine h_take 4 (.int .i64 (ks.length : Int)) rfl 9 rfl (by kernel_rfl) (by kernel_rfl) (by kernel_rfl) (by kernel_rfl) (fun _ _ _ h => h) (fun w' _ => Sl.run_op_lenK _ _ _ rfl fH.und _ _ _ rfl w') ⟨B_4, trivial⟩ ?_
    simp only [Act.put, List.setIfInBounds_toArray, List.set_cons_zero, List.set_cons_succ]
    refine h_take 5 (.pointer (some ⟨B, 0, none⟩)) rfl 10 rfl (by kernel_rfl) (by kernel_rfl) (by kernel_rfl) (by kernel_rfl) (fun _ _ _ h => h) (fun w' _ => by kernel_rfl) ⟨B_4, trivial⟩ ?_
    simp only [Act.put, List.setIfInBounds_toArray, List.set_cons_zero, List.set_cons_succ]
    refine h_take 6 (.pointer (some ⟨B, 0, none⟩)) rfl 11 rfl (by kernel_rfl) (by kernel_rfl) (by kernel_rfl) (by kernel_rfl) (fun _ _ _ h => h) (fun w' _ => by kernel_rfl) ⟨B_4, trivial⟩ ?_
    simp only [Act.put, List.setIfInBounds_toArray, List.set_cons_zero, List.set_cons_succ]
    refine h_take 7 (.pointer (some ⟨B, 0, none⟩)) rfl 12 rfl (by kernel_rfl) (by kernel_rfl) (by kernel_rfl) (by kernel_rfl) (fun _ _ _ h => h) (fun w' _ => by kernel_rfl) ⟨B_4, trivial⟩ ?_
    simp only [Act.put, List.setIfInBounds_toArray, List.set_cons_zero, List.set_cons_succ]
    refine h_take 8 (.int .i64 (r : Int)) rfl 13 rfl (by kernel_rfl) (by kernel_rfl) (by kernel_rfl) (by kernel_rfl) (fun _ _ _ h => h) (fun w' hw => run_op_load1 _ _ rfl (.int .i64) (by kernel_rfl) rfl ⟨B, 0, none⟩ rfl (.int .i64 (r : Int)) (hw.1.cell (i := 0) rfl)) ⟨B_4, trivial⟩ ?_
    simp only [Act.put, List.setIfInBounds_toArray, List.set_cons_zero, List.set_cons_succ]
    refine h_take 9 (.bool false) rfl 14 rfl (by kernel_rfl) (by kernel_rfl) (by kernel_rfl) (by kernel_rfl) (fun _ _ _ h => h) (fun w' _ => cmp_lss _ _ _ _ rfl .i64 (ks.length : Int) (r : Int) rfl rfl false d1 w') ⟨B_4, trivial⟩ ?_
    simp only [Act.put, List.setIfInBounds_toArray, List.set_cons_zero, List.set_cons_succ]
    refine wpAnyH_done (by kernel_rfl) ?_ _
    have hB2 := B_4.cell (i := 2) rfl
    have hqr := HQ.out _ g_4
    have hgR : g ≠ R := by omega
    go_wp2_with (first
      | ((with_reducible refine at_slot 20 ?_); (refine arm_want (.pointer (some ⟨g, 0 + 0 * 32, none⟩)) 20 rfl (by kernel_rfl) (Sl.run_op_index fH _ _ rfl g 0 _ _ rfl .i64 _ rfl 0 rfl hlt0 _) ?_); try simp only [Act.put, List.setIfInBounds_toArray, List.set_cons_zero, List.set_cons_succ])
      | ((with_reducible refine at_slot 21 ?_); (refine arm_load (o := ⟨some 21, _, _, _, _, _⟩) rfl _ _ rfl g (0 + 0 * 32) rfl (u8s q.1) (hqr) (szH KQ.out) ?_); try simp only [Act.put, List.setIfInBounds_toArray, List.set_cons_zero, List.set_cons_succ])
      | ((with_reducible refine at_slot 4 ?_); (refine arm_alloc (o := ⟨some 4, _, _, _, _, _⟩) rfl _ rfl (u8s zh) zH ?_); intro X v5a Xe hXa nX; try simp only [Act.put, List.setIfInBounds_toArray, List.set_cons_zero, List.set_cons_succ])
      | ((with_reducible refine arm_store (o := ⟨none, _, _, _, _, _⟩) rfl _ _ _ rfl X 0 rfl (u8s q.1) rfl _ _ hXa (fitH KQ.out) (u8s_one _) (szH KQ.out) ?_); intro v5 hXb oX sX; try simp only [Act.put, List.setIfInBounds_toArray, List.set_cons_zero, List.set_cons_succ]))
    have lX : yz3.heap.size ≤ X := by have := Xe.out; omega
    have bX : Below yz3.heap.size yz3 v5 := below_only nX.below oX lX nX.below.size
    have rrX : Row v5 X 32 (u8s q.1) := hXb.congr (allH KQ.out)
    have geX : w.heap.size ≤ X := Nat.le_trans bel_4.size lX
    have lXx := lX
    clear hXa hXb nX oX sX Xe lX
    have B_6 : Row v5 B 51 (ccs r mb (some ⟨g, 0, none⟩) ks.length cap) := B_4.old bX
    have M_6 : VMap v5 mb (q :: M) := M_4.old bX
    have O_6 : Own kH v5 0 (some ⟨g, 0, none⟩) cap ks := O_4.below bX
    have g_6 : Row v5 g 32 (cs) := g_4.old bX
    have R_6 : Row v5 R 32 (u8s zh) := R_4.old bX
    have bel_6 : Chg F w v5 := bel_4.old bX
    clear B_4 M_4 O_4 g_4 R_4 bel_4 bX
    clear hB2 hqr
    refine wp_region_held (S := fun w' => Row w' B 51 (ccs r mb (some ⟨g, 0, none⟩) ks.length cap) ∧ Row w' X 32 (u8s q.1) ∧ True) (by kernel_rfl) ?_
    change wpAnyH _ _ _ _ _ _ _ _ v5.drew
    have hd7 : Below v5.heap.size v5 v5.drew := (Below.refl _ _).drew
    have B_8 : Row v5.drew B 51 (ccs r mb (some ⟨g, 0, none⟩) ks.length cap) := B_6.old hd7
    have M_8 : VMap v5.drew mb (q :: M) := M_6.old hd7
    have O_8 : Own kH v5.drew 0 (some ⟨g, 0, none⟩) cap ks := O_6.below hd7
    have g_8 : Row v5.drew g 32 (cs) := g_6.old hd7
    have R_8 : Row v5.drew R 32 (u8s zh) := R_6.old hd7
    have X_8 : Row v5.drew X 32 (u8s q.1) := rrX.old hd7
    have bel_8 : Chg F w v5.drew := bel_6.old hd7
    clear B_6 M_6 O_6 g_6 R_6 rrX bel_6 hd7
    generalize v5.drew = yz7 at B_8 M_8 O_8 g_8 R_8 X_8 bel_8 ⊢
    refine h_take 0 (.pointer (some ⟨B, 0, none⟩)) rfl 22 rfl (by kernel_rfl) (by kernel_rfl) (by kernel_rfl) (by kernel_rfl) (fun _ _ _ h => h) (fun w' _ => by kernel_rfl) ⟨B_8, X_8, trivial⟩ ?_
    simp only [Act.put, List.setIfInBounds_toArray, List.set_cons_zero, List.set_cons_succ]
    refine h_take 1 (.pointer (some ⟨B, 0, none⟩)) rfl 23 rfl (by kernel_rfl) (by kernel_rfl) (by kernel_rfl) (by kernel_rfl) (fun _ _ _ h => h) (fun w' _ => by kernel_rfl) ⟨B_8, X_8, trivial⟩ ?_
    simp only [Act.put, List.setIfInBounds_toArray, List.set_cons_zero, List.set_cons_succ]
    refine h_take 2 (.pointer (some ⟨B, 1, none⟩)) rfl 24 rfl (by kernel_rfl) (by kernel_rfl) (by kernel_rfl) (by kernel_rfl) (fun _ _ _ h => h) (fun w' _ => by kernel_rfl) ⟨B_8, X_8, trivial⟩ ?_
    simp only [Act.put, List.setIfInBounds_toArray, List.set_cons_zero, List.set_cons_succ]
    refine h_take 3 (.map (some mb)) rfl 25 rfl (by kernel_rfl) (by kernel_rfl) (by kernel_rfl) (by kernel_rfl) (fun _ _ _ h => h) (fun w' hw => run_op_load1 _ _ rfl (.map 32 53) und_vm rfl ⟨B, 1, none⟩ rfl (.map (some mb)) (hw.1.cell (i := 1) rfl)) ⟨B_8, X_8, trivial⟩ ?_
    simp only [Act.put, List.setIfInBounds_toArray, List.set_cons_zero, List.set_cons_succ]
    refine h_take 4 (.agg (u8s q.1).toArray) rfl 26 rfl (by kernel_rfl) (by kernel_rfl) (by kernel_rfl) (by kernel_rfl) (fun _ _ _ h => h) (fun w' hw => run_op_load _ _ rfl X (0) rfl (u8s q.1) (((Has.refl _)).range hw.2.1) ((szH KQ.out))) ⟨B_8, X_8, trivial⟩ ?_
    simp only [Act.put, List.setIfInBounds_toArray, List.set_cons_zero, List.set_cons_succ]
    refine h_one (i := 5) (by kernel_rfl) (Sl.o_deleteK rfl rfl (by kernel_rfl) _ _ _ rfl rfl q.1 HHQ.out rfl M_8 hash_keys und_vm ?_)
    intro yD hmD hoD
    rw [HDL.out] at hmD
    have B_9 : Row yD B 51 (ccs r mb (some ⟨g, 0, none⟩) ks.length cap) := B_8.only hoD (Ne.symm (M_8.row B_8))
    have M_9 : VMap yD mb M := hmD
    have O_9 : Own kH yD 0 (some ⟨g, 0, none⟩) cap ks := O_8.only hoD (O_8.ne_map M_8)
    have g_9 : Row yD g 32 (cs) := g_8.only hoD (Ne.symm (M_8.row g_8))
    have R_9 : Row yD R 32 (u8s zh) := R_8.only hoD (Ne.symm (M_8.row R_8))
    have X_9 : Row yD X 32 (u8s q.1) := X_8.only hoD (Ne.symm (M_8.row X_8))
    have bel_9 : Chg F w yD := bel_8.only hoD (fm)
    clear B_8 M_8 O_8 g_8 R_8 X_8 bel_8 hoD
    refine ⟨⟨B_9, X_9, trivial⟩, ?_⟩
    refine wpAnyH_done (by kernel_rfl) ?_ _
    have hB2 := B_9.cell (i := 2) rfl
    go_wp2_with fail
    clear hB2
    clear g_9
    refine (CD.out _ O_9).mono ?_
    rintro e yT ⟨rfl, hoT, hcT⟩
    have hgX : g ≠ X := by have := geX; omega
    have B_10 : Row yT B 51 (ccs r mb (some ⟨g, 0, none⟩) ks.length cap) := B_9.chg hcT (fun e => (O_9.ne B_9 (by decide)) e)
    have M_10 : VMap yT mb M := M_9.chg hcT (fun e => (O_9.ne_map M_9) e)
    have O_10 : Own kH yT 0 (some ⟨g, 0, none⟩) cap (keys M) := hoT
    have R_10 : Row yT R 32 (u8s zh) := R_9.chg hcT (fun e => hgR (Option.some.inj e))
    have X_10 : Row yT X 32 (u8s q.1) := X_9.chg hcT (fun e => hgX (Option.some.inj e))
    have bel_10 : Chg F w yT := bel_9.step (hcT.more HFP.out)
    clear B_9 M_9 O_9 R_9 X_9 bel_9 hcT
    go_wp2_with (first
      | ((with_reducible refine arm_storeV (o := ⟨none, _, _, _, _, _⟩) rfl _ _ _ rfl B 2 rfl (.slice (some ⟨g, 0, none⟩) M.length cap) rfl (one_sl _ _ _) sz_slH _ _ (B_10) (lt_ccs _ _ _ _ _) ?_); intro yS hS oS sS; try simp only [Act.put, List.setIfInBounds_toArray, List.set_cons_zero, List.set_cons_succ]; refine fpause ?_; try simp only [Act.put, List.setIfInBounds_toArray, List.set_cons_zero, List.set_cons_succ]))
    have hXB := X_10.ne_type B_10 (by decide)
    have hRB := R_10.ne_type B_10 (by decide)
    have hS2 : Row yS B 51 (ccs r mb (some ⟨g, 0, none⟩) (keys M).length cap) := by rw [← KN.out]; exact hS
    clear hS sS
    have B_11 : Row yS B 51 (ccs r mb (some ⟨g, 0, none⟩) (keys M).length cap) := hS2
    have M_11 : VMap yS mb M := M_10.only oS (M_10.row B_10)
    have O_11 : Own kH yS 0 (some ⟨g, 0, none⟩) cap (keys M) := O_10.only oS (O_10.ne B_10 (by decide))
    have R_11 : Row yS R 32 (u8s zh) := R_10.only oS hRB
    have X_11 : Row yS X 32 (u8s q.1) := X_10.only oS hXB
    have bel_11 : Chg F w yS := bel_10.only oS (fB)
    clear B_10 M_10 O_10 R_10 X_10 bel_10 oS
    refine fgo ?_
    go_wp2_with (first
      | ((with_reducible refine at_slot 35 ?_); (refine arm_load (o := ⟨some 35, _, _, _, _, _⟩) rfl _ _ rfl X 0 rfl (u8s q.1) ((Has.refl _).range X_11) (szH KQ.out) ?_); try simp only [Act.put, List.setIfInBounds_toArray, List.set_cons_zero, List.set_cons_succ])
      | ((with_reducible refine arm_store (o := ⟨none, _, _, _, _, _⟩) rfl _ _ _ rfl R 0 rfl (u8s q.1) rfl _ _ R_11 (fitH KQ.out) (u8s_one _) (szH KQ.out) ?_); intro yR hR oR sR; try simp only [Act.put, List.setIfInBounds_toArray, List.set_cons_zero, List.set_cons_succ]))
    have hMR := M_11.row R_11
    refine bodyPost_ret (result_row2 (p := 2) (u := 3) (ty := 32) (t := 32) (by kernel_rfl) _ _ R (u8s q.1) (.bool true) rfl rfl (hR.congr (allH KQ.out)) (szH KQ.out)) rfl ?_
    have hs := bel_11.size
    exact ⟨by rw [HE.out, HD.out]; rfl, ⟨F, by rw [HL.out]; exact ⟨⟨mb, some ⟨g, 0, none⟩, cap, B_11.only oR (Ne.symm hRB), M_11.only oR hMR, O_11.only oR (fun e => hgR (Option.some.inj e)), fB, fm, HFP.out⟩, HOK.out, fun k hk => Nat.lt_of_lt_of_le (HLI.out k hk) (Nat.le_trans hs oR.size)⟩, Grew.refl _ _⟩, bel_11.new oR geR⟩
end Go.Proofs.Ytbpghogdjpobnaa.Vd
