/-
  The contract of layer 19's keys: the program's keys as the document's. Over this seat's translation.
-/
import Derived.Test.YtnjmocobncncdaaDoorOrdAll
import Derived.Test.YtnjmocobncncdaaDoorCmp
import Derived.Test.YtnjmocobncncdaaDoorFoot
namespace Go.Proofs.YtnjmocobncncdaaDoor.So
open Go.ChangeShapes Go.WideShapes Go.ChangeAt Go.RowKit Go.Proofs.YtnjmocobncncdaaDoor.Mem Go.Proofs.YtnjmocobncncdaaDoor.Bt
open Go.Proofs.YtnjmocobncncdaaDoor.Ep (Has)
open Go.Proofs.YtnjmocobncncdaaDoor.Sl (Kind)
open Go.Proofs.YtnjmocobncncdaaDoor.Od (Ky kcs kcs_one zk z_key sz_key fitK allK kK fK kRK fRK)
set_option linter.unusedVariables false
set_option linter.unusedSimpArgs false

structure KlRel (w : World) (l : List Ky) (s i : Value) (wr : World) : Prop where
  ex : ∃ (k : Nat) (p : Option Addr) (c : Nat), k ≤ l.length ∧ i = .int .i64 (k : Int) ∧ s = .slice p k c ∧ Sl.Own kRK wr w.heap.size p c (l.take k)
  bel : Below w.heap.size w wr
structure KlPost (w : World) (l : List Ky) (e : Ending) (w' : World) : Prop where
  ret : ∃ p c, e = .returned (.slice p l.length c) ∧ Sl.Own kRK w' w.heap.size p c l
  bel : Below w.heap.size w w'
set_option maxHeartbeats 4000000 in
set_option maxRecDepth 100000 in
theorem keysL_any (l : List Ky) (P : Option Addr) (pc : Nat) (w : World) (hs : Sl.At kK w P l) (hl : l.length ≤ 1000) :
    Calls Tryd.prog 17 #[.slice P l.length pc] w (KlPost w l) := by
  have HS := Lib.hid hs
  have HLL := Lib.hid hl
  clear hs hl
  go_enter Tryd.func17, Tryd.ntmps17
  go_wp2_with ((with_reducible refine at_slot 6 ?_); (refine Sl.arm_lit (K := kRK) (o := ⟨some 6, _, _, _, _, _⟩) rfl fRK [] Sl.allOk_nil (by simp) _ _ rfl rfl (by simp only [List.map_toArray, List.map_nil]; rfl) ?_); intro M v1 Me hM nM; try simp only [Act.put, List.setIfInBounds_toArray, List.set_cons_zero, List.set_cons_succ])
  try simp only [Act.put]
  have h0 : KlRel w l (.slice (some ⟨M, 0, none⟩) 0 0) (.int .i64 0) v1 := ⟨⟨0, some ⟨M, 0, none⟩, 0, Nat.zero_le _, rfl, rfl, by rw [List.take_zero]; exact Sl.Own.row fRK Sl.allOk_nil (by have := Me.out; omega) (by simp) hM⟩, nM.below⟩
  clear hM nM Me
  go_loopw [3, 9] (fun s i wr => KlRel w l s i wr) (fun _ i _ => l.length - (intOf i).toNat)
  case atStart => exact h0
  case round =>
    clear h0
    obtain ⟨⟨k, mp, mc, hk, rfl, rfl, hown⟩, bel⟩ := hrel
    have hL := HLL.out
    by_cases hlt : k < l.length
    · obtain ⟨t, g, o, ht, kt, hP, hgl, hrs⟩ := (HS.out.below bel).get hlt
      subst hP
      have KT := Lib.hid kt; have HT := Lib.hid ht
      have ik : (k : Int) < (l.length : Int) := by omega
      have k1000 : k < 1000 := by omega
      have hrs2 : wr.rangeAt g (o + k * 65) (kcs t) := hrs
      have bel0 : Chg (fun _ => False) w wr := Chg.of_below _ bel
      clear bel hrs kt ht
      go_wp2_with (first
        | ((with_reducible refine at_slot 11 ?_); (refine arm_want (.pointer (some ⟨g, o + k * 65, none⟩)) 11 rfl (by kernel_rfl) (Sl.run_op_index fK _ _ rfl g o _ _ rfl .i64 _ rfl k rfl hlt _) ?_); try simp only [Act.put, List.setIfInBounds_toArray, List.set_cons_zero, List.set_cons_succ])
        | ((with_reducible refine at_slot 12 ?_); (refine arm_load (o := ⟨some 12, _, _, _, _, _⟩) rfl _ _ rfl g (o + k * 65) rfl (kcs t) (hrs2) (sz_key KT.out) ?_); try simp only [Act.put, List.setIfInBounds_toArray, List.set_cons_zero, List.set_cons_succ])
        | ((with_reducible refine at_slot 5 ?_); (refine arm_alloc (o := ⟨some 5, _, _, _, _, _⟩) rfl _ rfl (kcs zk) z_key ?_); intro X v101a Xe hXa nX; try simp only [Act.put, List.setIfInBounds_toArray, List.set_cons_zero, List.set_cons_succ])
        | ((with_reducible refine arm_store (o := ⟨none, _, _, _, _, _⟩) rfl _ _ _ rfl X 0 rfl (kcs t) rfl _ _ hXa (fitK KT.out) (kcs_one _) (sz_key KT.out) ?_); intro v101 hXb oX sX; try simp only [Act.put, List.setIfInBounds_toArray, List.set_cons_zero, List.set_cons_succ]; refine fpause ?_; try simp only [Act.put, List.setIfInBounds_toArray, List.set_cons_zero, List.set_cons_succ]))
      have lX : wr.heap.size ≤ X := by have := Xe.out; omega
      have bX : Below wr.heap.size wr v101 := below_only nX.below oX lX nX.below.size
      have rrX : Row v101 X 54 (kcs t) := hXb.congr (allK KT.out)
      have geX : w.heap.size ≤ X := Nat.le_trans bel0.size lX
      have lXx := lX
      clear hXa hXb nX oX sX Xe lX
      have W_102 : Sl.Own kRK v101 w.heap.size mp mc (l.take k) := hown.below bX
      have bel_102 : Chg (fun _ => False) w v101 := bel0.old bX
      clear hown bel0 bX
      refine fgo ?_
      go_wp2_with (first
        | ((with_reducible refine at_slot 14 ?_); (refine arm_load (o := ⟨some 14, _, _, _, _, _⟩) rfl _ _ rfl X 0 rfl (kcs t) ((Has.refl _).range rrX) (sz_key KT.out) ?_); try simp only [Act.put, List.setIfInBounds_toArray, List.set_cons_zero, List.set_cons_succ])
        | ((with_reducible refine at_slot 15 ?_); (refine Sl.arm_lit (K := kRK) (o := ⟨some 15, _, _, _, _, _⟩) rfl fRK [t] (Sl.allOk_cons KT.out Sl.allOk_nil) (by simp) _ _ rfl rfl (by simp only [List.map_toArray, List.map_cons, List.map_nil]; rfl) ?_); intro Y vY Ye hY nY; try simp only [Act.put, List.setIfInBounds_toArray, List.set_cons_zero, List.set_cons_succ])
        | ((with_reducible refine at_slot 16 ?_); (refine Sl.arm_append (K := kRK) (o := ⟨some 16, _, _, _, _, _⟩) rfl fRK _ _ rfl (w.heap.size) (mp) _ mc (l.take k) (by rw [List.length_take]; omega) rfl (W_102.below nY.below) (some ⟨Y, 0, none⟩) 1 1 ([t]) rfl rfl (Sl.At.row fRK (Sl.allOk_cons KT.out Sl.allOk_nil) hY (List.append_nil _).symm) (by simp) (by simp only [List.length_take, List.length_cons, List.length_nil]; omega) (by have := bel_102.size; have := nY.size; omega) ?_); intro mp2 mc2 vZ hO2 hBZ hkp hat; rw [show (l.take k ++ [t]).length = k + 1 by simp only [List.length_append, List.length_take, List.length_cons, List.length_nil]; omega]; try simp only [Act.put, List.setIfInBounds_toArray, List.set_cons_zero, List.set_cons_succ]))
      have belZ : Below w.heap.size w vZ := ((bel_102.below (fun k hk => hk.elim) (Nat.le_refl _)).trans (nY.below.mono bel_102.size)).trans hBZ
      have hO3 : Sl.Own kRK vZ w.heap.size mp2 mc2 (l.take (k + 1)) := by
        rw [List.take_add_one, HT.out]
        exact hO2
      clear hO2 hBZ hkp hat Ye hY nY bel_102 W_102 rrX
      go_roundw
      case rel => exact ⟨⟨k + 1, mp2, mc2, by omega, by go_num, rfl, hO3⟩, belZ⟩
      case measure => simp [intOf]; omega
    · obtain rfl : k = l.length := by omega
      rw [List.take_length] at hown
      have HW := Lib.hid hown; have HBL := Lib.hid bel
      clear hown bel hL
      go_wp2_with fail
      go_ret
      exact ⟨⟨mp, mc, rfl, HW.out⟩, HBL.out⟩
end Go.Proofs.YtnjmocobncncdaaDoor.So
