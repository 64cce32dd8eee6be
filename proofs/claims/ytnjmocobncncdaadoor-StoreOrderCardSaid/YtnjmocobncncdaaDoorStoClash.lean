/-
  The contract of layer 19's clash: do two of some states that aren't the same have one digest? Over this seat's translation.
-/
import Derived.Test.YtnjmocobncncdaaDoorStoActs
namespace Go.Proofs.YtnjmocobncncdaaDoor.So
open Go.ChangeShapes Go.WideShapes Go.ChangeAt Go.RowKit Go.Proofs.YtnjmocobncncdaaDoor.Mem Go.Proofs.YtnjmocobncncdaaDoor.Bt Go.Proofs.YtnjmocobncncdaaDoor.Km
open Go.Proofs.YtnjmocobncncdaaDoor.Ep (H32 zh zh_ok Has h_len szH zH fitH allH one_app num32)
open Go.Proofs.YtnjmocobncncdaaDoor.Sl (Kind At bk)
open Go.Proofs.YtnjmocobncncdaaDoor.Sha (ks)
open Go.Proofs.YtnjmocobncncdaaDoor.Sa (Sta scs digS digS_ok zs zs_ok z_sta sz_sta scs_one fitS allS h_drw h_lngth)
open Go.Proofs.YtnjmocobncncdaaDoor.Od (Ky kcs keyN keyN_ok kcs_len kcs_one kcmp kval zk z_key sz_key fitK allK built_key compare_anyD)
set_option linter.unusedVariables false
set_option linter.unusedSimpArgs false

open Go.Proofs.YtnjmocobncncdaaDoor.Lk (kS fS)
/-- Do two of these that aren't the same have one digest? -/
def ClashP (l : List Sta) : Prop := ∃ x ∈ l, ∃ y ∈ l, x ≠ y ∧ digS x = digS y
def NoC (l : List Sta) : Prop := ∀ x ∈ l, ∀ y ∈ l, digS x = digS y → x = y
theorem noc_nil : NoC [] := fun x h => (nomatch h)
theorem noc_snoc {L : List Sta} {a : Sta} (h : NoC L) (g : ∀ y ∈ L, digS y = digS a → y = a) : NoC (L ++ [a]) := fun x hx y hy e => by
  rcases List.mem_append.1 hx with hx | hx <;> rcases List.mem_append.1 hy with hy | hy
  · exact h x hx y hy e
  · rw [List.mem_singleton.1 hy] at e ⊢; exact g x hx e
  · rw [List.mem_singleton.1 hx] at e ⊢; exact (g y hy e.symm).symm
  · rw [List.mem_singleton.1 hx, List.mem_singleton.1 hy]
theorem noc_not {l : List Sta} (h : NoC l) : ¬ ClashP l := fun ⟨x, hx, y, hy, n, e⟩ => n (h x hx y hy e)
theorem take_last {l : List Sta} {k : Nat} {a : Sta} (h : l[k]? = some a) : l.take (k + 1) = l.take k ++ [a] := by
  rw [List.take_add_one, h]; rfl
theorem take_new {l : List Sta} {k j : Nat} {a b : Sta} (h : ∀ y ∈ (l.take k).take j, digS y = digS a → y = a) (hb : (l.take k)[j]? = some b) (g : digS b = digS a → b = a) : ∀ y ∈ (l.take k).take (j + 1), digS y = digS a → y = a := by
  rw [take_last hb]
  intro y hy e
  rcases List.mem_append.1 hy with hy | hy
  · exact h y hy e
  · rw [List.mem_singleton.1 hy] at e ⊢; exact g e
structure CoRel (w : World) (l : List Sta) (i : Value) (wr : World) : Prop where
  ex : ∃ k : Nat, k ≤ l.length ∧ i = .int .i64 (k : Int) ∧ NoC (l.take k)
  bel : Below w.heap.size w wr
structure CiRel (w : World) (l : List Sta) (k : Nat) (a : Sta) (A : Nat) (j : Value) (wx : World) : Prop where
  ex : ∃ i : Nat, i ≤ k ∧ j = .int .i64 (i : Int) ∧ ∀ y ∈ (l.take k).take i, digS y = digS a → y = a
  ra : Row wx A 41 (scs a)
  bel : Below w.heap.size w wx
structure ClPost (w : World) (l : List Sta) (e : Ending) (w' : World) : Prop where
  ret : ∃ b : Bool, e = .returned (.bool b) ∧ (b = true ↔ ClashP l)
  bel : Below w.heap.size w w'
set_option maxHeartbeats 4000000 in
set_option maxRecDepth 100000 in
theorem clash_any (l : List Sta) (P : Option Addr) (pc : Nat) (w : World) (hs : Sl.At kS w P l) (hl : l.length ≤ pc ∧ l.length ≤ 1000) (hk : w.rangeAt 0 0 (u32s ks)) :
    Calls Tryd.prog 18 #[.slice P l.length pc] w (ClPost w l) := by
  have hk1 : 0 < w.heap.size := range_lt hk (by simp [u32s, ks])
  have HKW : Hid (∀ w', Below w.heap.size w w' → w'.rangeAt 0 0 (u32s ks)) := Lib.hid fun w' hb => range_block hk (hb.block _ hk1)
  have HS := Lib.hid hs
  have HL := Lib.hid hl
  have CH := Lib.hid (fun x kx w0 h => Sa.shash_any x w0 kx h)
  clear hs hk hk1 hl
  go_enter Tryd.func18, Tryd.ntmps18
  have bel0 : Chg (fun _ => False) w w := Chg.refl _ _
  go_wp2_with fail
  try simp only [Act.put]
  have h0 : CoRel w l (.int .i64 0) w := ⟨⟨0, Nat.zero_le _, rfl, noc_nil⟩, Below.refl _ _⟩
  clear bel0
  go_loopw [9] (fun i wr => CoRel w l i wr) (fun i _ => l.length - (intOf i).toNat)
  case atStart => exact h0
  case round =>
    clear h0
    obtain ⟨⟨k, hk, rfl, hno⟩, bel⟩ := hrel
    have HNO := Lib.hid hno
    clear hno
    have bel0 : Chg (fun _ => False) w wr := Chg.of_below _ bel
    by_cases hlt : k < l.length
    · skip
      have hk1000 : k < 1000 := by have := HL.out.2; omega
      obtain ⟨a, g, o, hx, kx, hP, hgl, hrx⟩ := (HS.out.below bel).get hlt
      subst hP
      have ik : (k : Int) < (l.length : Int) := by omega
      have KA := Lib.hid kx; have KH := Lib.hid (digS_ok a); have HX := Lib.hid hx
      have HKC : Hid (k ≤ pc) := Lib.hid (by have := HL.out.1; omega)
      have hrx2 : wr.rangeAt g (o + k * 363) (scs a) := hrx
      clear hx kx hrx bel
      go_wp2_with (first
        | ((with_reducible refine at_slot 12 ?_); (refine arm_want (.pointer (some ⟨g, o + k * 363, none⟩)) 12 rfl (by kernel_rfl) (Sl.run_op_index fS _ _ rfl g o _ _ rfl .i64 _ rfl k rfl hlt _) ?_); try simp only [Act.put, List.setIfInBounds_toArray, List.set_cons_zero, List.set_cons_succ])
        | ((with_reducible refine at_slot 13 ?_); (refine arm_load (o := ⟨some 13, _, _, _, _, _⟩) rfl _ _ rfl g (o + k * 363) rfl (scs a) (hrx2) (sz_sta KA.out) ?_); try simp only [Act.put, List.setIfInBounds_toArray, List.set_cons_zero, List.set_cons_succ])
        | ((with_reducible refine at_slot 4 ?_); (refine arm_alloc (o := ⟨some 4, _, _, _, _, _⟩) rfl _ rfl (scs zs) z_sta ?_); intro A v101a Ae hAa nA; try simp only [Act.put, List.setIfInBounds_toArray, List.set_cons_zero, List.set_cons_succ])
        | ((with_reducible refine arm_store (o := ⟨none, _, _, _, _, _⟩) rfl _ _ _ rfl A 0 rfl (scs a) rfl _ _ hAa (fitS KA.out) (scs_one _) (sz_sta KA.out) ?_); intro v101 hAb oA sA; try simp only [Act.put, List.setIfInBounds_toArray, List.set_cons_zero, List.set_cons_succ]; refine fpause ?_; try simp only [Act.put, List.setIfInBounds_toArray, List.set_cons_zero, List.set_cons_succ]))
      have lA : wr.heap.size ≤ A := by have := Ae.out; omega
      have bA : Below wr.heap.size wr v101 := below_only nA.below oA lA nA.below.size
      have rrA : Row v101 A 41 (scs a) := hAb.congr (allS KA.out)
      have geA : w.heap.size ≤ A := Nat.le_trans bel0.size lA
      have lAx := lA
      clear hAa hAb nA oA sA Ae lA
      have bel_102 : Chg (fun _ => False) w v101 := bel0.old bA
      clear bel0 bA
      refine fgo ?_
      clear hrx2
      go_wp2_with (first
        | ((with_reducible refine at_slot 16 ?_); (refine arm_want (.slice (some ⟨g, o, none⟩) k pc) 16 rfl (by kernel_rfl) (Sl.run_op_head fS _ _ rfl _ _ _ rfl .i64 _ rfl k rfl HKC.out _) ?_); try simp only [Act.put, List.setIfInBounds_toArray, List.set_cons_zero, List.set_cons_succ]))
      try simp only [Act.put]
      have h1 : CiRel w l k a A (.int .i64 0) v101 := ⟨⟨0, Nat.zero_le _, rfl, fun y h => (nomatch h)⟩, rrA, (bel_102.below (fun k hk => hk.elim) (Nat.le_refl _))⟩
      clear rrA bel_102
      have HGA : Hid (w.heap.size ≤ A) := Lib.hid geA
      clear geA
      try clear lAx
      go_loopw [18] (fun j wx => CiRel w l k a A j wx) (fun j _ => k - (intOf j).toNat)
      case atStart => exact h1
      case round =>
        clear h1
        obtain ⟨⟨j, hj, rfl, hne⟩, hA, bel⟩ := hrel
        have HNE := Lib.hid hne
        clear hne
        have bel0 : Chg (fun _ => False) w wr := Chg.of_below _ bel
        by_cases hjk : j < k
        · skip
          have hjl : j < l.length := by omega
          have hj1000 : j < 1000 := by omega
          have jk : (j : Int) < (k : Int) := by omega
          obtain ⟨b, g2, o2, hx, kx, hP, hgl, hrx⟩ := (HS.out.below bel).get hjl
          obtain ⟨rfl, rfl⟩ : g = g2 ∧ o = o2 := by simpa using hP
          have KB := Lib.hid kx; have KHB := Lib.hid (digS_ok b); have HXB := Lib.hid hx
          have HTB : Hid ((l.take k)[j]? = some b) := Lib.hid (by rw [List.getElem?_take_of_lt hjk]; exact hx)
          have hrx2 : wr.rangeAt g (o + j * 363) (scs b) := hrx
          clear hx kx hrx bel hP hgl
          go_wp2_with (first
            | ((with_reducible refine at_slot 20 ?_); (refine arm_want (.pointer (some ⟨g, o + j * 363, none⟩)) 20 rfl (by kernel_rfl) (Sl.run_op_index fS _ _ rfl g o _ _ rfl .i64 _ rfl j rfl hjk _) ?_); try simp only [Act.put, List.setIfInBounds_toArray, List.set_cons_zero, List.set_cons_succ])
            | ((with_reducible refine at_slot 21 ?_); (refine arm_load (o := ⟨some 21, _, _, _, _, _⟩) rfl _ _ rfl g (o + j * 363) rfl (scs b) (hrx2) (sz_sta KB.out) ?_); try simp only [Act.put, List.setIfInBounds_toArray, List.set_cons_zero, List.set_cons_succ])
            | ((with_reducible refine at_slot 6 ?_); (refine arm_alloc (o := ⟨some 6, _, _, _, _, _⟩) rfl _ rfl (scs zs) z_sta ?_); intro B v301a Be hBa nB; try simp only [Act.put, List.setIfInBounds_toArray, List.set_cons_zero, List.set_cons_succ])
            | ((with_reducible refine arm_store (o := ⟨none, _, _, _, _, _⟩) rfl _ _ _ rfl B 0 rfl (scs b) rfl _ _ hBa (fitS KB.out) (scs_one _) (sz_sta KB.out) ?_); intro v301 hBb oB sB; try simp only [Act.put, List.setIfInBounds_toArray, List.set_cons_zero, List.set_cons_succ]; refine fpause ?_; try simp only [Act.put, List.setIfInBounds_toArray, List.set_cons_zero, List.set_cons_succ]))
          have lB : wr.heap.size ≤ B := by have := Be.out; omega
          have bB : Below wr.heap.size wr v301 := below_only nB.below oB lB nB.below.size
          have rrB : Row v301 B 41 (scs b) := hBb.congr (allS KB.out)
          have geB : w.heap.size ≤ B := Nat.le_trans bel0.size lB
          have lBx := lB
          clear hBa hBb nB oB sB Be lB
          have A_302 : Row v301 A 41 (scs a) := hA.old bB
          have bel_302 : Chg (fun _ => False) w v301 := bel0.old bB
          clear hA bel0 bB
          refine fgo ?_
          clear hrx2
          go_wp2_with fail
          by_cases hab : a = b
          · skip
            have HAB := Lib.hid hab
            clear hab
            refine wp_region_held (S := fun w' => Row w' A 41 (scs a) ∧ Row w' B 41 (scs b) ∧ True) (by kernel_rfl) ?_
            change wpAnyH _ _ _ _ _ _ _ _ v301.drew
            have hd303 : Below v301.heap.size v301 v301.drew := (Below.refl _ _).drew
            have A_304 : Row v301.drew A 41 (scs a) := A_302.old hd303
            have B_304 : Row v301.drew B 41 (scs b) := rrB.old hd303
            have bel_304 : Chg (fun _ => False) w v301.drew := bel_302.old hd303
            clear A_302 rrB bel_302 hd303
            generalize v301.drew = yz303 at A_304 B_304 bel_304 ⊢
            refine h_take 0 (.agg (scs a).toArray) rfl 22 rfl (by kernel_rfl) (by kernel_rfl) (by kernel_rfl) (by kernel_rfl) (fun _ _ _ h => h) (fun w' hw => run_op_load _ _ rfl A (0) rfl (scs a) (((Has.refl _)).range hw.1) ((sz_sta KA.out))) ⟨A_304, B_304, trivial⟩ ?_
            simp only [Act.put, List.setIfInBounds_toArray, List.set_cons_zero, List.set_cons_succ]
            refine h_take 1 (.agg (scs b).toArray) rfl 23 rfl (by kernel_rfl) (by kernel_rfl) (by kernel_rfl) (by kernel_rfl) (fun _ _ _ h => h) (fun w' hw => run_op_load _ _ rfl B (0) rfl (scs b) (((Has.refl _)).range hw.2.1) ((sz_sta KB.out))) ⟨A_304, B_304, trivial⟩ ?_
            simp only [Act.put, List.setIfInBounds_toArray, List.set_cons_zero, List.set_cons_succ]
            refine h_take 2 (.bool false) rfl 24 rfl (by kernel_rfl) (by kernel_rfl) (by kernel_rfl) (by kernel_rfl) (fun _ _ _ h => h) (fun w' _ => Sa.run_op_neqS KA.out KB.out _ _ _ rfl rfl rfl true (Lk.same_iff KA.out KB.out ⟨fun _ => HAB.out, fun _ => rfl⟩) w') ⟨A_304, B_304, trivial⟩ ?_
            simp only [Act.put, List.setIfInBounds_toArray, List.set_cons_zero, List.set_cons_succ]
            refine h_take 3 (.bool false) rfl 25 rfl (by kernel_rfl) (by kernel_rfl) (by kernel_rfl) (by kernel_rfl) (fun _ _ _ h => h) (fun w' _ => by kernel_rfl) ⟨A_304, B_304, trivial⟩ ?_
            simp only [Act.put, List.setIfInBounds_toArray, List.set_cons_zero, List.set_cons_succ]
            refine h_pass 4 rfl 26 rfl (by kernel_rfl) (by kernel_rfl) (by kernel_rfl) (by kernel_rfl) (fun _ _ _ h => h) ⟨A_304, B_304, trivial⟩ ?_
            simp only [Act.put, List.setIfInBounds_toArray, List.set_cons_zero, List.set_cons_succ]
            refine h_pass 5 rfl 27 rfl (by kernel_rfl) (by kernel_rfl) (by kernel_rfl) (by kernel_rfl) (fun _ _ _ h => h) ⟨A_304, B_304, trivial⟩ ?_
            simp only [Act.put, List.setIfInBounds_toArray, List.set_cons_zero, List.set_cons_succ]
            refine h_pass 6 rfl 28 rfl (by kernel_rfl) (by kernel_rfl) (by kernel_rfl) (by kernel_rfl) (fun _ _ _ h => h) ⟨A_304, B_304, trivial⟩ ?_
            simp only [Act.put, List.setIfInBounds_toArray, List.set_cons_zero, List.set_cons_succ]
            refine h_pass 7 rfl 29 rfl (by kernel_rfl) (by kernel_rfl) (by kernel_rfl) (by kernel_rfl) (fun _ _ _ h => h) ⟨A_304, B_304, trivial⟩ ?_
            simp only [Act.put, List.setIfInBounds_toArray, List.set_cons_zero, List.set_cons_succ]
            refine h_pass 8 rfl 30 rfl (by kernel_rfl) (by kernel_rfl) (by kernel_rfl) (by kernel_rfl) (fun _ _ _ h => h) ⟨A_304, B_304, trivial⟩ ?_
            simp only [Act.put, List.setIfInBounds_toArray, List.set_cons_zero, List.set_cons_succ]
            refine h_take 9 (.bool false) rfl 31 rfl (by kernel_rfl) (by kernel_rfl) (by kernel_rfl) (by kernel_rfl) (fun _ _ _ h => h) (fun w' _ => by kernel_rfl) ⟨A_304, B_304, trivial⟩ ?_
            simp only [Act.put, List.setIfInBounds_toArray, List.set_cons_zero, List.set_cons_succ]
            refine wpAnyH_done (by kernel_rfl) ?_ _
            go_wp2_with fail
            go_roundw
            case rel => exact ⟨⟨j + 1, by omega, by go_num, take_new HNE.out HTB.out (fun _ => HAB.out.symm)⟩, A_304, (bel_304.below (fun k hk => hk.elim) (Nat.le_refl _))⟩
            case measure => simp [intOf]; omega
          · skip
            have HAB := Lib.hid hab
            clear hab
            obtain ⟨vb, hvb⟩ : ∃ vb, decide (digS a = digS b) = vb := ⟨_, rfl⟩
            have HVB := Lib.hid hvb
            clear hvb
            refine wp_region_held (S := fun w' => Row w' A 41 (scs a) ∧ Row w' B 41 (scs b) ∧ True) (by kernel_rfl) ?_
            change wpAnyH _ _ _ _ _ _ _ _ v301.drew
            have hd303 : Below v301.heap.size v301 v301.drew := (Below.refl _ _).drew
            have A_304 : Row v301.drew A 41 (scs a) := A_302.old hd303
            have B_304 : Row v301.drew B 41 (scs b) := rrB.old hd303
            have bel_304 : Chg (fun _ => False) w v301.drew := bel_302.old hd303
            clear A_302 rrB bel_302 hd303
            generalize v301.drew = yz303 at A_304 B_304 bel_304 ⊢
            refine h_take 0 (.agg (scs a).toArray) rfl 22 rfl (by kernel_rfl) (by kernel_rfl) (by kernel_rfl) (by kernel_rfl) (fun _ _ _ h => h) (fun w' hw => run_op_load _ _ rfl A (0) rfl (scs a) (((Has.refl _)).range hw.1) ((sz_sta KA.out))) ⟨A_304, B_304, trivial⟩ ?_
            simp only [Act.put, List.setIfInBounds_toArray, List.set_cons_zero, List.set_cons_succ]
            refine h_take 1 (.agg (scs b).toArray) rfl 23 rfl (by kernel_rfl) (by kernel_rfl) (by kernel_rfl) (by kernel_rfl) (fun _ _ _ h => h) (fun w' hw => run_op_load _ _ rfl B (0) rfl (scs b) (((Has.refl _)).range hw.2.1) ((sz_sta KB.out))) ⟨A_304, B_304, trivial⟩ ?_
            simp only [Act.put, List.setIfInBounds_toArray, List.set_cons_zero, List.set_cons_succ]
            refine h_take 2 (.bool true) rfl 24 rfl (by kernel_rfl) (by kernel_rfl) (by kernel_rfl) (by kernel_rfl) (fun _ _ _ h => h) (fun w' _ => Sa.run_op_neqS KA.out KB.out _ _ _ rfl rfl rfl false (Lk.same_iff KA.out KB.out ⟨fun h => absurd h Bool.false_ne_true, fun h => absurd h HAB.out⟩) w') ⟨A_304, B_304, trivial⟩ ?_
            simp only [Act.put, List.setIfInBounds_toArray, List.set_cons_zero, List.set_cons_succ]
            refine h_take 3 (.bool true) rfl 25 rfl (by kernel_rfl) (by kernel_rfl) (by kernel_rfl) (by kernel_rfl) (fun _ _ _ h => h) (fun w' _ => by kernel_rfl) ⟨A_304, B_304, trivial⟩ ?_
            simp only [Act.put, List.setIfInBounds_toArray, List.set_cons_zero, List.set_cons_succ]
            refine h_take 4 (.agg (scs a).toArray) rfl 26 rfl (by kernel_rfl) (by kernel_rfl) (by kernel_rfl) (by kernel_rfl) (fun _ _ _ h => h) (fun w' hw => run_op_load _ _ rfl A (0) rfl (scs a) (((Has.refl _)).range hw.1) ((sz_sta KA.out))) ⟨A_304, B_304, trivial⟩ ?_
            simp only [Act.put, List.setIfInBounds_toArray, List.set_cons_zero, List.set_cons_succ]
            refine h_take 6 (.agg (scs b).toArray) rfl 28 rfl (by kernel_rfl) (by kernel_rfl) (by kernel_rfl) (by kernel_rfl) (fun _ _ _ h => h) (fun w' hw => run_op_load _ _ rfl B (0) rfl (scs b) (((Has.refl _)).range hw.2.1) ((sz_sta KB.out))) ⟨A_304, B_304, trivial⟩ ?_
            simp only [Act.put, List.setIfInBounds_toArray, List.set_cons_zero, List.set_cons_succ]
            refine h_one (i := 5) (by kernel_rfl) (o_call rfl 27 rfl (by kernel_rfl) (run_op_call 7 _ _ rfl #[.agg (scs a).toArray] (by simp only [List.map_toArray, List.map_cons, List.map_nil]; rfl) Tryd.func7 (by kernel_rfl) (by kernel_rfl) _) (CH.out a KA.out _ (HKW.out _ (bel_304.below (fun k hk => hk.elim) (Nat.le_refl _)))) ?_)
            rintro e y305 ⟨rfl, hB⟩
            have A_306 : Row y305 A 41 (scs a) := A_304.old hB
            have B_306 : Row y305 B 41 (scs b) := B_304.old hB
            have bel_306 : Chg (fun _ => False) w y305 := bel_304.old hB
            clear A_304 B_304 bel_304 hB
            refine ⟨_, rfl, ⟨A_306, B_306, trivial⟩, ?_⟩
            simp only [Act.put, List.setIfInBounds_toArray, List.set_cons_zero, List.set_cons_succ]
            refine h_one (i := 7) (by kernel_rfl) (o_call rfl 29 rfl (by kernel_rfl) (run_op_call 7 _ _ rfl #[.agg (scs b).toArray] (by simp only [List.map_toArray, List.map_cons, List.map_nil]; rfl) Tryd.func7 (by kernel_rfl) (by kernel_rfl) _) (CH.out b KB.out _ (HKW.out _ (bel_306.below (fun k hk => hk.elim) (Nat.le_refl _)))) ?_)
            rintro e y307 ⟨rfl, hB⟩
            have A_308 : Row y307 A 41 (scs a) := A_306.old hB
            have B_308 : Row y307 B 41 (scs b) := B_306.old hB
            have bel_308 : Chg (fun _ => False) w y307 := bel_306.old hB
            clear A_306 B_306 bel_306 hB
            refine ⟨_, rfl, ⟨A_308, B_308, trivial⟩, ?_⟩
            simp only [Act.put, List.setIfInBounds_toArray, List.set_cons_zero, List.set_cons_succ]
            refine h_take 8 (.bool vb) rfl 30 rfl (by kernel_rfl) (by kernel_rfl) (by kernel_rfl) (by kernel_rfl) (fun _ _ _ h => h) (fun w' _ => run_op_eqlW _ _ _ rfl (digS a) (digS b) KH.out KHB.out rfl rfl vb HVB.out w') ⟨A_308, B_308, trivial⟩ ?_
            simp only [Act.put, List.setIfInBounds_toArray, List.set_cons_zero, List.set_cons_succ]
            refine h_take 9 (.bool vb) rfl 31 rfl (by kernel_rfl) (by kernel_rfl) (by kernel_rfl) (by kernel_rfl) (fun _ _ _ h => h) (fun w' _ => by kernel_rfl) ⟨A_308, B_308, trivial⟩ ?_
            simp only [Act.put, List.setIfInBounds_toArray, List.set_cons_zero, List.set_cons_succ]
            refine wpAnyH_done (by kernel_rfl) ?_ _
            cases vb with
            | true =>
              go_wp2_with fail
              go_ret
              exact ⟨⟨true, rfl, fun _ => ⟨a, List.mem_of_getElem? HX.out, b, List.mem_of_getElem? HXB.out, HAB.out, of_decide_eq_true HVB.out⟩, fun _ => rfl⟩, (bel_308.below (fun k hk => hk.elim) (Nat.le_refl _))⟩
            | false =>
              go_wp2_with fail
              go_roundw
              case rel => exact ⟨⟨j + 1, by omega, by go_num, take_new HNE.out HTB.out (fun e => absurd e.symm (of_decide_eq_false HVB.out))⟩, A_308, (bel_308.below (fun k hk => hk.elim) (Nat.le_refl _))⟩
              case measure => simp [intOf]; omega
        · skip
          obtain rfl : j = k := by omega
          clear hA bel hjk hj
          have HNO2 : Hid (NoC (l.take (j + 1))) := Lib.hid (by rw [take_last HX.out]; exact noc_snoc HNO.out (by have := HNE.out; rwa [List.take_take, Nat.min_self] at this))
          go_wp2_with fail
          go_roundw
          case rel => exact ⟨⟨j + 1, by omega, by go_num, HNO2.out⟩, (bel0.below (fun k hk => hk.elim) (Nat.le_refl _))⟩
          case measure => simp [intOf]; omega
    · skip
      obtain rfl : k = l.length := by omega
      have HB := Lib.hid bel
      clear bel bel0 hlt hk
      have HNC : Hid (¬ ClashP l) := Lib.hid (noc_not (by have := HNO.out; rwa [List.take_length] at this))
      go_wp2_with fail
      go_ret
      exact ⟨⟨false, rfl, fun h => absurd h Bool.false_ne_true, fun h => absurd h HNC.out⟩, HB.out⟩
end Go.Proofs.YtnjmocobncncdaaDoor.So
