/-
  The contracts of slices.Delete (of one element) and slices.Clone, of digests. Over this seat's translation.
-/
import Derived.Test.YtbpghogdjpobnaaVerMem
import Derived.Test.YtbpghogdjpobnaaCmp
import Derived.BigQuiet
namespace Go.Proofs.Ytbpghogdjpobnaa.Vd
open Go.ChangeShapes Go.WideShapes Go.ChangeAt Go.RowKit Go.Proofs.Ytbpghogdjpobnaa.Mem Go.Proofs.Ytbpghogdjpobnaa.Bt Go.Proofs.Ytbpghogdjpobnaa.Km
open Go.Proofs.Ytbpghogdjpobnaa.Ep (H32 zh zh_ok Has h_len szH zH fitH allH one_app)
open Go.Proofs.Ytbpghogdjpobnaa.Sl (Kind Own At bk)
set_option linter.unusedVariables false
set_option linter.unusedSimpArgs false

structure DelPost (w : World) (p : Option Addr) (cap n : Nat) (l : List (List Nat)) (e : Ending) (w' : World) : Prop where
  ret : e = .returned (.slice p n cap)
  own : Own kH w' 0 p cap l
  chg : Chg (fun k => bk p = some k) w w'
set_option maxHeartbeats 4000000 in
set_option maxRecDepth 100000 in
theorem del_any (p : Option Addr) (cap : Nat) (l : List (List Nat)) (i n : Nat) (w : World) (hown : Own kH w 0 p cap l) (hi : i < l.length) (hn : l.length = n + 1) :
    Calls Try.prog 19 #[.slice p (n + 1) cap, .int .i64 (i : Int), .int .i64 ((i + 1 : Nat) : Int)] w (DelPost w p cap n (l.eraseIdx i)) := by
  have hat := (hown.at fH).tail (i + 1) hown.cap
  obtain ⟨g, cs, hp, hg, hc, hrow, hf1, hf2, hback⟩ := hown.erase fH hi
  subst hp
  obtain ⟨ad, had⟩ := Sl.onN_some g (i + 1) 32 cap
  rw [show kH.n = 32 from rfl, had] at hat
  have hl1 : (l.drop (i + 1)).length = n + 1 - (i + 1) := by rw [List.length_drop, hn]
  rw [hn] at hc hf1 hf2 hback hi
  rw [show kH.n = 32 from rfl, show kH.cs kH.z = u8s zh from rfl, Nat.add_sub_cancel] at hback
  rw [show kH.n = 32 from rfl, Nat.add_sub_cancel] at hf2
  have HB := Lib.hid hback; have HAD := Lib.hid had; have HAT := Lib.hid hat; have HL1 := Lib.hid hl1.symm
  have hf3 : i * 32 + (l.drop (i + 1)).length * 32 ≤ cs.length := by rw [hl1]; exact hf1
  have HF3 := Lib.hid hf3; have HF2 := Lib.hid hf2
  have d1 : decide ((i : Int) = ((i + 1 : Nat) : Int)) = false := decide_eq_false (by omega)
  have hic : i ≤ cap := by omega
  have hin : i + (n + 1 - (i + 1)) = n := by omega
  have hin2 : i + (n + 1 - (i + 1)) ≤ cap := by omega
  have hnc : n + 1 ≤ cap := hc
  have HAL : Hid ((kH.all (l.drop (i + 1))).length = (l.drop (i + 1)).length * 32) := Lib.hid (Sl.all_len fH _ (Sl.AllOk.drop hown.ok (i + 1)))
  have HC : Hid (cs.length = (lay cs (i * 32) (kH.all (l.drop (i + 1)))).length) := Lib.hid (by rw [lay_length _ _ _ (by rw [HAL.out]; exact hf3)])
  clear hback had hat hf1 hf2 hf3 hown hl1
  go_enter Try.func19, Try.ntmps19
  go_wp2_with (first
    | ((with_reducible refine at_slot 13 ?_); (refine Sl.arm_three (o := ⟨some 13, _, _, _, _, _⟩) rfl fH _ _ _ _ rfl g (n + 1) cap rfl .i64 .i64 .i64 i (i + 1) (n + 1) rfl rfl rfl (by omega) (by omega) hnc ?_); intro v13; try simp only [Act.put, List.setIfInBounds_toArray, List.set_cons_zero, List.set_cons_succ])
    | ((with_reducible refine at_slot 16 ?_); (refine arm_want (.bool false) 16 rfl (by kernel_rfl) (cmp_eql _ _ .i64 (by kernel_rfl) _ _ rfl .i64 ((i : Int)) (((i + 1 : Nat) : Int)) rfl rfl false (d1) _) ?_); try simp only [Act.put, List.setIfInBounds_toArray, List.set_cons_zero, List.set_cons_succ]))
  refine wp_region_held (S := fun w' => True) (by kernel_rfl) ?_
  change wpAnyH _ _ _ _ _ _ _ _ w.drew
  have hd1 : Below w.heap.size w w.drew := (Below.refl _ _).drew
  have g_2 : Row w.drew g 32 (cs) := hrow.old hd1
  have bel_2 : Below w.heap.size w w.drew := hd1
  clear hrow hd1
  generalize w.drew = yz1 at g_2 bel_2 ⊢
  refine h_take 0 (.slice (some ⟨g, 0, none⟩) (n + 1) cap) rfl 20 rfl (by kernel_rfl) (by kernel_rfl) (by kernel_rfl) (by kernel_rfl) (fun _ _ _ h => h) (fun w' _ => by kernel_rfl) trivial ?_
  simp only [Act.put, List.setIfInBounds_toArray, List.set_cons_zero, List.set_cons_succ]
  refine h_take 1 (.int .i64 (i : Int)) rfl 21 rfl (by kernel_rfl) (by kernel_rfl) (by kernel_rfl) (by kernel_rfl) (fun _ _ _ h => h) (fun w' _ => by kernel_rfl) trivial ?_
  simp only [Act.put, List.setIfInBounds_toArray, List.set_cons_zero, List.set_cons_succ]
  refine h_take 2 (.slice (some ⟨g, 0, none⟩) i cap) rfl 22 rfl (by kernel_rfl) (by kernel_rfl) (by kernel_rfl) (by kernel_rfl) (fun _ _ _ h => h) (fun w' _ => Sl.run_op_head fH _ _ rfl _ _ _ rfl .i64 _ rfl i rfl hic w') trivial ?_
  simp only [Act.put, List.setIfInBounds_toArray, List.set_cons_zero, List.set_cons_succ]
  refine h_take 3 (.slice (some ⟨g, 0, none⟩) (n + 1) cap) rfl 23 rfl (by kernel_rfl) (by kernel_rfl) (by kernel_rfl) (by kernel_rfl) (fun _ _ _ h => h) (fun w' _ => by kernel_rfl) trivial ?_
  simp only [Act.put, List.setIfInBounds_toArray, List.set_cons_zero, List.set_cons_succ]
  refine h_take 4 (.int .i64 ((i + 1 : Nat) : Int)) rfl 24 rfl (by kernel_rfl) (by kernel_rfl) (by kernel_rfl) (by kernel_rfl) (fun _ _ _ h => h) (fun w' _ => by kernel_rfl) trivial ?_
  simp only [Act.put, List.setIfInBounds_toArray, List.set_cons_zero, List.set_cons_succ]
  refine h_take 5 (.slice (some ad) (n + 1 - (i + 1)) (cap - (i + 1))) rfl 25 rfl (by kernel_rfl) (by kernel_rfl) (by kernel_rfl) (by kernel_rfl) (fun _ _ _ h => h) (fun w' _ => Sl.run_op_tailS fH _ _ rfl _ _ _ rfl .i64 _ rfl (i + 1) rfl (by omega) _ HAD.out w') trivial ?_
  simp only [Act.put, List.setIfInBounds_toArray, List.set_cons_zero, List.set_cons_succ]
  have hatz : At kH yz1 (some ad) (l.drop (i + 1)) := HAT.out.below bel_2
  refine h_one (i := 6) (by kernel_rfl) (o_value _ rfl 26 rfl (by kernel_rfl) (Sl.run_op_appendR fH _ _ rfl g i cap cs g_2 rfl ad _ _ (l.drop (i + 1)) rfl HL1.out hatz hin2 HF3.out n hin) ?_)
  have rq := row_setRow g_2 (lay cs (i * 32) (kH.all (l.drop (i + 1))))
  have oq := Only.setRow g yz1 (lay cs (i * 32) (kH.all (l.drop (i + 1)))).toArray
  have ch : Chg (fun k => k = g) w yz1 := Chg.of_below _ bel_2
  refine ⟨trivial, ?_⟩
  generalize yz1.setRow g (lay cs (i * 32) (Sl.Kind.all kH (l.drop (i + 1)))).toArray = y at rq oq ⊢
  have ch2 := ch.step (Chg.of_only oq rfl)
  clear ch oq hatz g_2 bel_2
  simp only [Act.put, List.setIfInBounds_toArray, List.set_cons_zero, List.set_cons_succ]
  refine h_take 7 (.slice (some ⟨g, 0, none⟩) n cap) rfl 0 rfl (by kernel_rfl) (by kernel_rfl) (by kernel_rfl) (by kernel_rfl) (fun _ _ _ h => h) (fun w' _ => by kernel_rfl) trivial ?_
  simp only [Act.put, List.setIfInBounds_toArray, List.set_cons_zero, List.set_cons_succ]
  refine wpAnyH_done (by kernel_rfl) ?_ _
  go_wp2_with (first
    | ((with_reducible refine at_slot 31 ?_); (refine arm_want (.slice (some ⟨g, n * 32, none⟩) 1 (cap - n)) 31 rfl (by kernel_rfl) (Sl.run_op_part fH _ _ _ rfl g _ cap rfl .i64 .i64 n (n + 1) rfl rfl rfl hnc _) ?_); try simp only [Act.put, List.setIfInBounds_toArray, List.set_cons_zero, List.set_cons_succ])
    | ((with_reducible refine Sl.arm_clear1 (o := ⟨none, _, _, _, _, _⟩) rfl fH _ rfl g (n * 32) _ (lay cs (i * 32) (kH.all (l.drop (i + 1)))) rq rfl (by rw [← HC.out]; exact HF2.out) ?_); intro w2 hw2 ow2 sw2; try simp only [Act.put, List.setIfInBounds_toArray, List.set_cons_zero, List.set_cons_succ]))
  go_ret
  exact ⟨rfl, HB.out _ hw2, (ch2.step (Chg.of_only ow2 rfl)).more (fun k hk => by rw [hk]; rfl)⟩
structure CloPost (w : World) (l : List (List Nat)) (e : Ending) (w' : World) : Prop where
  ex : ∃ p cap, e = .returned (.slice p l.length cap) ∧ Own kH w' w.heap.size p cap l
  bel : Below w.heap.size w w'
set_option maxHeartbeats 4000000 in
set_option maxRecDepth 100000 in
theorem clo_any (p : Option Addr) (cap : Nat) (l : List (List Nat)) (w : World) (hat : At kH w p l) (hl : l.length ≤ 1000000) :
    Calls Try.prog 18 #[.slice p l.length cap] w (CloPost w l) := by
  have HAT := Lib.hid hat
  have HL := Lib.hid hl
  clear hl
  cases p with
  | none =>
    obtain rfl : l = [] := by
      cases l with
      | nil => rfl
      | cons x l => obtain ⟨g, o, e, _⟩ := hat.at_ 0 x rfl; cases e
    clear hat
    go_enter Try.func18, Try.ntmps18
    go_wp2_with (first
      | ((with_reducible refine at_slot 4 ?_); (refine arm_want (.bool true) 4 rfl (by kernel_rfl) (Sl.run_op_eqlNil _ _ _ fH.und _ _ rfl none _ _ rfl rfl _) ?_)))
    go_ret
    exact ⟨⟨none, 0, rfl, Own.nil _ _⟩, Below.refl _ _⟩
  | some ad =>
    clear hat
    go_enter Try.func18, Try.ntmps18
    go_wp2_with (first
      | ((with_reducible refine at_slot 4 ?_); (refine arm_want (.bool false) 4 rfl (by kernel_rfl) (Sl.run_op_eqlNil _ _ _ fH.und _ _ rfl (some ad) _ _ rfl rfl _) ?_))
      | ((with_reducible refine at_slot 7 ?_); (refine Sl.arm_appendQ (o := ⟨some 7, _, _, _, _, _⟩) rfl fH _ _ rfl w.heap.size (some ⟨w.heap.size, 0, none⟩) 0 0 [] rfl rfl (Sl.own_empty fH w) (some ad) _ _ l rfl rfl (HAT.out.below (new_alloc w _).below) (by rw [List.length_nil, Nat.zero_add]; exact HL.out) (new_alloc w _).below.size ?_); intro p' cap' w' hO hB2 hk hb; try simp only [List.nil_append] at hO ⊢))
    go_ret
    exact ⟨⟨p', cap', rfl, hO⟩, (new_alloc w _).below.trans hB2⟩
end Go.Proofs.Ytbpghogdjpobnaa.Vd
