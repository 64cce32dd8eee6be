/-
  The contracts of the document's New, Get, Known and Same, of layer 18. Over this seat's translation.
-/
import Derived.Test.YtbpghogdjpobnaaVerLeaf
import Derived.LoopTactic
namespace Go.Proofs.Ytbpghogdjpobnaa.Vd
open Go.ChangeShapes Go.WideShapes Go.ChangeAt Go.RowKit Go.Proofs.Ytbpghogdjpobnaa.Mem Go.Proofs.Ytbpghogdjpobnaa.Bt Go.Proofs.Ytbpghogdjpobnaa.Km
open Go.Proofs.Ytbpghogdjpobnaa.Ep (H32 zh zh_ok Has h_len szH zH fitH allH one_app)
open Go.Proofs.Ytbpghogdjpobnaa.Sl (Kind Own At bk)
set_option linter.unusedVariables false
set_option linter.unusedSimpArgs false

theorem built_rcache (r : Nat) : Try.prog.built 42 [(1, .int .i64 (r : Int))] = some (rcs r none 0 0).toArray := by kernel_rfl
structure RNewPost (w : World) (room : Int) (e : Ending) (w' : World) : Prop where
  ex : (1 ≤ room ∧ room ≤ 100 ∧ ∃ C F, e = .returned (.tuple #[.pointer (some ⟨C, 0, none⟩), .int .i64 0]) ∧ RAt w' F C room.toNat [] ∧ From F w.heap.size) ∨ (¬ (1 ≤ room ∧ room ≤ 100) ∧ e = .returned (.tuple #[.pointer none, .int .i64 1]))
  bel : Below w.heap.size w w'
set_option maxHeartbeats 4000000 in
set_option maxRecDepth 100000 in
theorem rnew_any (room : Int) (w : World) :
    Calls Try.prog 8 #[.int .i64 room] w (RNewPost w room) := by
  by_cases h1 : room < 1
  · have d1 : decide (room < 1) = true := decide_eq_true h1
    have HN : Hid (¬ (1 ≤ room ∧ room ≤ 100)) := Lib.hid (by omega)
    clear h1
    go_enter Try.func8, Try.ntmps8
    go_wp2_with (first
      | ((with_reducible refine at_slot 5 ?_); (refine arm_want (.bool true) 5 rfl (by kernel_rfl) (cmp_lss _ _ _ _ rfl .i64 (room) (1) rfl rfl true (d1) _) ?_); try simp only [Act.put, List.setIfInBounds_toArray, List.set_cons_zero, List.set_cons_succ]))
    go_ret2
    exact ⟨.inr ⟨HN.out, rfl⟩, Below.refl _ _⟩
  · by_cases h2 : 100 < room
    · have d1 : decide (room < 1) = false := decide_eq_false h1
      have d2 : decide (100 < room) = true := decide_eq_true h2
      have HN : Hid (¬ (1 ≤ room ∧ room ≤ 100)) := Lib.hid (by omega)
      clear h1 h2
      go_enter Try.func8, Try.ntmps8
      go_wp2_with (first
        | ((with_reducible refine at_slot 5 ?_); (refine arm_want (.bool false) 5 rfl (by kernel_rfl) (cmp_lss _ _ _ _ rfl .i64 (room) (1) rfl rfl false (d1) _) ?_); try simp only [Act.put, List.setIfInBounds_toArray, List.set_cons_zero, List.set_cons_succ])
        | ((with_reducible refine at_slot 8 ?_); (refine arm_want (.bool true) 8 rfl (by kernel_rfl) (cmp_gtr _ _ _ _ rfl .i64 (room) (100) rfl rfl true (d2) _) ?_); try simp only [Act.put, List.setIfInBounds_toArray, List.set_cons_zero, List.set_cons_succ]))
      go_ret2
      exact ⟨.inr ⟨HN.out, rfl⟩, Below.refl _ _⟩
    · obtain ⟨r, rfl⟩ : ∃ r : Nat, room = (r : Int) := ⟨room.toNat, by omega⟩
      have d1 : decide ((r : Int) < 1) = false := decide_eq_false h1
      have d2 : decide (100 < (r : Int)) = false := decide_eq_false h2
      have HR1 : Hid (1 ≤ r) := Lib.hid (by omega)
      have HR2 : Hid (r ≤ 100) := Lib.hid (by omega)
      have BC := Lib.hid built_rcache
      clear h1 h2
      go_enter Try.func8, Try.ntmps8
      go_wp2_with (first
        | ((with_reducible refine at_slot 5 ?_); (refine arm_want (.bool false) 5 rfl (by kernel_rfl) (cmp_lss _ _ _ _ rfl .i64 ((r : Int)) (1) rfl rfl false (d1) _) ?_); try simp only [Act.put, List.setIfInBounds_toArray, List.set_cons_zero, List.set_cons_succ])
        | ((with_reducible refine at_slot 8 ?_); (refine arm_want (.bool false) 8 rfl (by kernel_rfl) (cmp_gtr _ _ _ _ rfl .i64 ((r : Int)) (100) rfl rfl false (d2) _) ?_); try simp only [Act.put, List.setIfInBounds_toArray, List.set_cons_zero, List.set_cons_succ])
        | ((with_reducible refine at_slot 11 ?_); (refine arm_build (o := ⟨some 11, _, _, _, _, _⟩) rfl _ _ rfl (rcs r none 0 0) (by simp only [List.map_toArray, List.map_cons, List.map_nil]; exact BC.out r) ?_); try simp only [Act.put, List.setIfInBounds_toArray, List.set_cons_zero, List.set_cons_succ])
        | ((with_reducible refine at_slot 12 ?_); (refine arm_box (o := ⟨some 12, _, _, _, _, _⟩) rfl _ _ rfl (rcs r none 0 0) rfl ?_); intro C v2 Ce hv2 nv2; try simp only [Act.put, List.setIfInBounds_toArray, List.set_cons_zero, List.set_cons_succ]))
      go_ret2
      have hBl : w.heap.size ≤ C := by have := Ce.out; omega
      have hR1 := HR1.out; have hR2 := HR2.out
      exact ⟨.inl ⟨by omega, by omega, C, fun k => k = C, rfl, ⟨⟨none, 0, by rw [Int.toNat_natCast]; exact hv2, Sl.At.nil _ _, Nat.le_refl _, rfl, fun g hg => by cases hg⟩, by rw [Int.toNat_natCast]; exact v_nil hR1, fun k hk => hk ▸ hv2.lt⟩, fun k hk => hk ▸ hBl⟩, nv2.below⟩
theorem get_at {L : VL} {h : List Nat} : ∀ {k : Nat} {x : List Nat × Bool}, L[k]? = some x → x.1 = h → (∀ j y, j < k → L[j]? = some y → y.1 ≠ h) → getV L h = some x.2 := by
  induction L with
  | nil => intro k x hx; simp at hx
  | cons p L ih =>
    intro k x hx he hn
    unfold getV
    cases k with
    | zero =>
      obtain rfl : p = x := by simpa using hx
      rw [if_pos he]
    | succ k =>
      rw [if_neg (hn 0 p (by omega) rfl)]
      exact ih (by simpa using hx) he (fun j y hj hy => hn (j + 1) y (by omega) (by simpa using hy))
theorem get_no {L : VL} {h : List Nat} (hn : ∀ j y, j < L.length → L[j]? = some y → y.1 ≠ h) : h ∉ keys L := fun hi => by
  obtain ⟨y, hy, e⟩ := List.mem_map.1 hi
  obtain ⟨j, hj, q⟩ := List.mem_iff_getElem.1 hy
  exact hn j y hj (by rw [List.getElem?_eq_getElem hj, q]) e
theorem range_u8 {w w' : World} {g o : Nat} {x : List Nat} (h : w.rangeAt g o (u8s x)) (k : H32 x) (hb : Below w.heap.size w w') : w'.rangeAt g o (u8s x) :=
  range_block h (hb.block g (range_lt h (fun e => by have := congrArg List.length e; rw [h_len k] at this; cases this)))
theorem cell_u8 {F : Nat → Prop} {w w' : World} {g o : Nat} {v : Value} (h : w.cell? ⟨g, o, none⟩ = some v) (hb : Chg F w w') (hg : g < w.heap.size) (hn : ¬ F g) : w'.cell? ⟨g, o, none⟩ = some v := by
  rw [World.cell?_of_block (w := w) (a := ⟨g, o, none⟩) (hb.block g hg hn)]
  exact h
structure RgRel (w : World) (L : VL) (h : List Nat) (i : Value) (wr : World) : Prop where
  ex : ∃ k : Nat, k ≤ L.length ∧ i = .int .i64 (k : Int) ∧ ∀ j y, j < k → L[j]? = some y → y.1 ≠ h
  bel : Below w.heap.size w wr
set_option maxHeartbeats 4000000 in
set_option maxRecDepth 100000 in
theorem rget_any (F : Nat → Prop) (C r : Nat) (L : VL) (h : List Nat) (w : World) (hC : RAt w F C r L) (hh : H32 h) (hr : r ≤ 100) :
    Calls Try.prog 12 #[.pointer (some ⟨C, 0, none⟩), .agg (u8s h).toArray] w fun e w' => e = .returned (.tuple #[.bool ((getV L h).getD false), .bool (getV L h).isSome]) ∧ Below w.heap.size w w' := by
  obtain ⟨⟨p, cap, hB, hA, hcap, fB, fp⟩, hok, hli⟩ := hC
  have KH := Lib.hid hh
  have HL : Hid (L.length ≤ 100) := Lib.hid (by have := hok.len; omega)
  clear hok hli hcap fB fp hh hr
  go_enter Try.func12, Try.ntmps12
  have bel0 : Chg (fun _ => False) w w := Chg.refl _ _
  go_wp2_with (first
    | ((with_reducible refine at_slot 3 ?_); (refine arm_box (o := ⟨some 3, _, _, _, _, _⟩) rfl _ _ rfl (u8s h) rfl ?_); intro X v1 Xe hv1 nv1; try simp only [Act.put, List.setIfInBounds_toArray, List.set_cons_zero, List.set_cons_succ]))
  have hbv1 := nv1.below
  have rrv1 : Row v1 X 32 (u8s h) := hv1
  have geX : w.heap.size ≤ X := by have := Xe.out; have := bel0.size; omega
  have lXx : w.heap.size ≤ X := by have := Xe.out; omega
  clear hv1 nv1 Xe
  have C_2 : Row v1 C 42 (rcs r p L.length cap) := hB.old hbv1
  have A_2 : At kP v1 p L := hA.below hbv1
  have bel_2 : Chg (fun _ => False) w v1 := bel0.old hbv1
  clear hB hA bel0 hbv1
  try simp only [Act.put]
  have h0 : RgRel v1 L h (.int .i64 0) v1 := ⟨⟨0, by omega, rfl, fun j y hj => by omega⟩, Below.refl _ _⟩
  have HBX : Hid (Below w.heap.size w v1) := Lib.hid (bel_2.below (fun k hk => hk.elim) (Nat.le_refl _))
  have HC0 := Lib.hid C_2; have HA0 := Lib.hid A_2; have HX0 := Lib.hid rrv1
  clear bel_2 C_2 A_2 rrv1 lXx geX
  generalize v1 = W0 at h0 HBX HC0 HA0 HX0 ⊢
  go_loopw [6] (fun i wr => RgRel W0 L h i wr) (fun i _ => L.length - (intOf i).toNat)
  case atStart => exact h0
  case round =>
    clear h0
    obtain ⟨⟨k, hk, rfl, hne⟩, bel⟩ := hrel
    have hCr := HC0.out.old bel; have hXr := HX0.out.old bel; have hAr := HA0.out.below bel
    have hL := HL.out
    by_cases hlt : k < L.length
    · obtain ⟨x, g, o, hx, kx, hp, hg, hrx⟩ := hAr.get hlt
      subst hp
      have KX := Lib.hid kx; have HNE := Lib.hid hne; have HX1 := Lib.hid hx; have BEL := Lib.hid bel
      have ik : (k : Int) < (L.length : Int) := by omega
      have k100 : k < 100 := by omega
      have d1 : decide ((k : Int) < (L.length : Int)) = true := decide_eq_true ik
      have hrh : wr.rangeAt g (o + k * 33) (u8s x.1) := fun j v hj => hrx j v (by show (u8s x.1 ++ [Value.bool x.2])[j]? = some v; rw [List.getElem?_append_left (List.getElem?_eq_some_iff.1 hj).1]; exact hj)
      have hrb : wr.cell? ⟨g, o + k * 33 + 32, none⟩ = some (.bool x.2) := hrx 32 _ (prc_b kx)
      have hc0 := hCr.cell (i := 0) rfl
      clear hne hx kx bel hAr hrx hL
      have bel0 : Chg (fun _ => False) wr wr := Chg.refl _ _
      by_cases he : x.1 = h
      · skip
        have de : decide (x.1 = h) = true := decide_eq_true he
        go_wp2_with fail
        refine wp_region_held (S := fun w' => Row w' C 42 (rcs r (some ⟨g, o, none⟩) L.length cap) ∧ Row w' X 32 (u8s h) ∧ w'.rangeAt g (o + k * 33) (u8s x.1) ∧ True) (by kernel_rfl) ?_
        change wpAnyH _ _ _ _ _ _ _ _ wr.drew
        have hd201 : Below wr.heap.size wr wr.drew := (Below.refl _ _).drew
        have C_202 : Row wr.drew C 42 (rcs r (some ⟨g, o, none⟩) L.length cap) := hCr.old hd201
        have X_202 : Row wr.drew X 32 (u8s h) := hXr.old hd201
        have D_202 : wr.drew.rangeAt g (o + k * 33) (u8s x.1) := range_u8 hrh KX.out hd201
        have bel_202 : Chg (fun _ => False) wr wr.drew := bel0.old hd201
        clear hCr hXr hrh bel0 hd201
        generalize wr.drew = yz201 at C_202 X_202 D_202 bel_202 ⊢
        refine h_take 0 (.pointer (some ⟨C, 0, none⟩)) rfl 16 rfl (by kernel_rfl) (by kernel_rfl) (by kernel_rfl) (by kernel_rfl) (fun _ _ _ h => h) (fun w' _ => by kernel_rfl) ⟨C_202, X_202, D_202, trivial⟩ ?_
        simp only [Act.put, List.setIfInBounds_toArray, List.set_cons_zero, List.set_cons_succ]
        refine h_take 1 (.pointer (some ⟨C, 0, none⟩)) rfl 17 rfl (by kernel_rfl) (by kernel_rfl) (by kernel_rfl) (by kernel_rfl) (fun _ _ _ h => h) (fun w' _ => by kernel_rfl) ⟨C_202, X_202, D_202, trivial⟩ ?_
        simp only [Act.put, List.setIfInBounds_toArray, List.set_cons_zero, List.set_cons_succ]
        refine h_take 2 (.pointer (some ⟨C, 0, none⟩)) rfl 18 rfl (by kernel_rfl) (by kernel_rfl) (by kernel_rfl) (by kernel_rfl) (fun _ _ _ h => h) (fun w' _ => by kernel_rfl) ⟨C_202, X_202, D_202, trivial⟩ ?_
        simp only [Act.put, List.setIfInBounds_toArray, List.set_cons_zero, List.set_cons_succ]
        refine h_take 3 (.slice (some ⟨g, o, none⟩) L.length cap) rfl 19 rfl (by kernel_rfl) (by kernel_rfl) (by kernel_rfl) (by kernel_rfl) (fun _ _ _ h => h) (fun w' hw => run_op_load1 _ _ rfl (.slice 57) fP.und rfl ⟨C, 0, none⟩ rfl (.slice (some ⟨g, o, none⟩) L.length cap) (hw.1.cell (i := 0) rfl)) ⟨C_202, X_202, D_202, trivial⟩ ?_
        simp only [Act.put, List.setIfInBounds_toArray, List.set_cons_zero, List.set_cons_succ]
        refine h_take 4 (.int .i64 (k : Int)) rfl 20 rfl (by kernel_rfl) (by kernel_rfl) (by kernel_rfl) (by kernel_rfl) (fun _ _ _ h => h) (fun w' _ => by kernel_rfl) ⟨C_202, X_202, D_202, trivial⟩ ?_
        simp only [Act.put, List.setIfInBounds_toArray, List.set_cons_zero, List.set_cons_succ]
        refine h_take 5 (.pointer (some ⟨g, o + k * 33, none⟩)) rfl 21 rfl (by kernel_rfl) (by kernel_rfl) (by kernel_rfl) (by kernel_rfl) (fun _ _ _ h => h) (fun w' _ => Sl.run_op_index fP _ _ rfl g o _ _ rfl .i64 _ rfl k rfl (hlt) w') ⟨C_202, X_202, D_202, trivial⟩ ?_
        simp only [Act.put, List.setIfInBounds_toArray, List.set_cons_zero, List.set_cons_succ]
        refine h_take 6 (.pointer (some ⟨g, o + k * 33, none⟩)) rfl 22 rfl (by kernel_rfl) (by kernel_rfl) (by kernel_rfl) (by kernel_rfl) (fun _ _ _ h => h) (fun w' _ => by kernel_rfl) ⟨C_202, X_202, D_202, trivial⟩ ?_
        simp only [Act.put, List.setIfInBounds_toArray, List.set_cons_zero, List.set_cons_succ]
        refine h_take 7 (.agg (u8s x.1).toArray) rfl 23 rfl (by kernel_rfl) (by kernel_rfl) (by kernel_rfl) (by kernel_rfl) (fun _ _ _ h => h) (fun w' hw => run_op_load _ _ rfl g (o + k * 33) rfl (u8s x.1) hw.2.2.1 (szH KX.out)) ⟨C_202, X_202, D_202, trivial⟩ ?_
        simp only [Act.put, List.setIfInBounds_toArray, List.set_cons_zero, List.set_cons_succ]
        refine h_take 8 (.agg (u8s h).toArray) rfl 24 rfl (by kernel_rfl) (by kernel_rfl) (by kernel_rfl) (by kernel_rfl) (fun _ _ _ h => h) (fun w' hw => run_op_load _ _ rfl X (0) rfl (u8s h) (((Has.refl _)).range hw.2.1) ((szH KH.out))) ⟨C_202, X_202, D_202, trivial⟩ ?_
        simp only [Act.put, List.setIfInBounds_toArray, List.set_cons_zero, List.set_cons_succ]
        refine h_take 9 (.bool true) rfl 25 rfl (by kernel_rfl) (by kernel_rfl) (by kernel_rfl) (by kernel_rfl) (fun _ _ _ h => h) (fun w' _ => run_op_eqlV _ _ _ rfl x.1 h KX.out KH.out rfl rfl true de w') ⟨C_202, X_202, D_202, trivial⟩ ?_
        simp only [Act.put, List.setIfInBounds_toArray, List.set_cons_zero, List.set_cons_succ]
        refine wpAnyH_done (by kernel_rfl) ?_ _
        have hc2 := C_202.cell (i := 0) rfl
        have hc3 : yz201.cell? ⟨g, o + k * 33 + 32, none⟩ = some (.bool x.2) := cell_u8 hrb bel_202 hg (fun q => q)
        go_wp2_with (first
          | ((with_reducible refine at_slot 31 ?_); (refine arm_want (.pointer (some ⟨g, o + k * 33, none⟩)) 31 rfl (by kernel_rfl) (Sl.run_op_index fP _ _ rfl g o _ _ rfl .i64 _ rfl k rfl (hlt) _) ?_); try simp only [Act.put, List.setIfInBounds_toArray, List.set_cons_zero, List.set_cons_succ]))
        go_ret2
        have hgv := get_at HX1.out he HNE.out
        exact ⟨by rw [hgv]; rfl, HBX.out.trans ((BEL.out.trans ((bel_202.below (n := wr.heap.size) (fun k hk => hk.elim) (Nat.le_refl _)).mono BEL.out.size)).mono HBX.out.size)⟩
      · skip
        have de : decide (x.1 = h) = false := decide_eq_false he
        go_wp2_with fail
        refine wp_region_held (S := fun w' => Row w' C 42 (rcs r (some ⟨g, o, none⟩) L.length cap) ∧ Row w' X 32 (u8s h) ∧ w'.rangeAt g (o + k * 33) (u8s x.1) ∧ True) (by kernel_rfl) ?_
        change wpAnyH _ _ _ _ _ _ _ _ wr.drew
        have hd201 : Below wr.heap.size wr wr.drew := (Below.refl _ _).drew
        have C_202 : Row wr.drew C 42 (rcs r (some ⟨g, o, none⟩) L.length cap) := hCr.old hd201
        have X_202 : Row wr.drew X 32 (u8s h) := hXr.old hd201
        have D_202 : wr.drew.rangeAt g (o + k * 33) (u8s x.1) := range_u8 hrh KX.out hd201
        have bel_202 : Chg (fun _ => False) wr wr.drew := bel0.old hd201
        clear hCr hXr hrh bel0 hd201
        generalize wr.drew = yz201 at C_202 X_202 D_202 bel_202 ⊢
        refine h_take 0 (.pointer (some ⟨C, 0, none⟩)) rfl 16 rfl (by kernel_rfl) (by kernel_rfl) (by kernel_rfl) (by kernel_rfl) (fun _ _ _ h => h) (fun w' _ => by kernel_rfl) ⟨C_202, X_202, D_202, trivial⟩ ?_
        simp only [Act.put, List.setIfInBounds_toArray, List.set_cons_zero, List.set_cons_succ]
        refine h_take 1 (.pointer (some ⟨C, 0, none⟩)) rfl 17 rfl (by kernel_rfl) (by kernel_rfl) (by kernel_rfl) (by kernel_rfl) (fun _ _ _ h => h) (fun w' _ => by kernel_rfl) ⟨C_202, X_202, D_202, trivial⟩ ?_
        simp only [Act.put, List.setIfInBounds_toArray, List.set_cons_zero, List.set_cons_succ]
        refine h_take 2 (.pointer (some ⟨C, 0, none⟩)) rfl 18 rfl (by kernel_rfl) (by kernel_rfl) (by kernel_rfl) (by kernel_rfl) (fun _ _ _ h => h) (fun w' _ => by kernel_rfl) ⟨C_202, X_202, D_202, trivial⟩ ?_
        simp only [Act.put, List.setIfInBounds_toArray, List.set_cons_zero, List.set_cons_succ]
        refine h_take 3 (.slice (some ⟨g, o, none⟩) L.length cap) rfl 19 rfl (by kernel_rfl) (by kernel_rfl) (by kernel_rfl) (by kernel_rfl) (fun _ _ _ h => h) (fun w' hw => run_op_load1 _ _ rfl (.slice 57) fP.und rfl ⟨C, 0, none⟩ rfl (.slice (some ⟨g, o, none⟩) L.length cap) (hw.1.cell (i := 0) rfl)) ⟨C_202, X_202, D_202, trivial⟩ ?_
        simp only [Act.put, List.setIfInBounds_toArray, List.set_cons_zero, List.set_cons_succ]
        refine h_take 4 (.int .i64 (k : Int)) rfl 20 rfl (by kernel_rfl) (by kernel_rfl) (by kernel_rfl) (by kernel_rfl) (fun _ _ _ h => h) (fun w' _ => by kernel_rfl) ⟨C_202, X_202, D_202, trivial⟩ ?_
        simp only [Act.put, List.setIfInBounds_toArray, List.set_cons_zero, List.set_cons_succ]
        refine h_take 5 (.pointer (some ⟨g, o + k * 33, none⟩)) rfl 21 rfl (by kernel_rfl) (by kernel_rfl) (by kernel_rfl) (by kernel_rfl) (fun _ _ _ h => h) (fun w' _ => Sl.run_op_index fP _ _ rfl g o _ _ rfl .i64 _ rfl k rfl (hlt) w') ⟨C_202, X_202, D_202, trivial⟩ ?_
        simp only [Act.put, List.setIfInBounds_toArray, List.set_cons_zero, List.set_cons_succ]
        refine h_take 6 (.pointer (some ⟨g, o + k * 33, none⟩)) rfl 22 rfl (by kernel_rfl) (by kernel_rfl) (by kernel_rfl) (by kernel_rfl) (fun _ _ _ h => h) (fun w' _ => by kernel_rfl) ⟨C_202, X_202, D_202, trivial⟩ ?_
        simp only [Act.put, List.setIfInBounds_toArray, List.set_cons_zero, List.set_cons_succ]
        refine h_take 7 (.agg (u8s x.1).toArray) rfl 23 rfl (by kernel_rfl) (by kernel_rfl) (by kernel_rfl) (by kernel_rfl) (fun _ _ _ h => h) (fun w' hw => run_op_load _ _ rfl g (o + k * 33) rfl (u8s x.1) hw.2.2.1 (szH KX.out)) ⟨C_202, X_202, D_202, trivial⟩ ?_
        simp only [Act.put, List.setIfInBounds_toArray, List.set_cons_zero, List.set_cons_succ]
        refine h_take 8 (.agg (u8s h).toArray) rfl 24 rfl (by kernel_rfl) (by kernel_rfl) (by kernel_rfl) (by kernel_rfl) (fun _ _ _ h => h) (fun w' hw => run_op_load _ _ rfl X (0) rfl (u8s h) (((Has.refl _)).range hw.2.1) ((szH KH.out))) ⟨C_202, X_202, D_202, trivial⟩ ?_
        simp only [Act.put, List.setIfInBounds_toArray, List.set_cons_zero, List.set_cons_succ]
        refine h_take 9 (.bool false) rfl 25 rfl (by kernel_rfl) (by kernel_rfl) (by kernel_rfl) (by kernel_rfl) (fun _ _ _ h => h) (fun w' _ => run_op_eqlV _ _ _ rfl x.1 h KX.out KH.out rfl rfl false de w') ⟨C_202, X_202, D_202, trivial⟩ ?_
        simp only [Act.put, List.setIfInBounds_toArray, List.set_cons_zero, List.set_cons_succ]
        refine wpAnyH_done (by kernel_rfl) ?_ _
        go_wp2_with fail
        go_roundw
        case rel => exact ⟨⟨k + 1, by omega, by go_num, fun j y hj hy => by
          rcases Nat.lt_or_ge j k with q | q
          · exact HNE.out j y q hy
          · obtain rfl : j = k := by omega
            rw [HX1.out] at hy
            cases hy
            exact he⟩, BEL.out.trans ((bel_202.below (n := wr.heap.size) (fun k hk => hk.elim) (Nat.le_refl _)).mono BEL.out.size)⟩
        case measure => simp [intOf]; omega
    · obtain rfl : k = L.length := by omega
      have HG : Hid (getV L h = none) := Lib.hid (get_none (get_no hne))
      have BEL := Lib.hid bel
      have hc0 := hCr.cell (i := 0) rfl
      clear hne bel hAr hL
      go_wp2_with fail
      go_ret2
      exact ⟨by rw [HG.out]; rfl, HBX.out.trans (BEL.out.mono HBX.out.size)⟩
structure RkRel (w : World) (L : VL) (s i : Value) (wr : World) : Prop where
  ex : ∃ k : Nat, k ≤ L.length ∧ i = .int .i64 (k : Int) ∧ ∃ q c, s = .slice q ((keys L).take k).length c ∧ Own kH wr w.heap.size q c ((keys L).take k)
  bel : Below w.heap.size w wr
theorem keys_at {L : VL} {k : Nat} {x : List Nat × Bool} (h : L[k]? = some x) : (keys L).take k ++ [x.1] = (keys L).take (k + 1) := by
  have : (keys L)[k]? = some x.1 := by unfold keys; rw [List.getElem?_map, h]; rfl
  rw [List.take_add_one, this]
  rfl
set_option maxHeartbeats 4000000 in
set_option maxRecDepth 100000 in
theorem rknown_any (F : Nat → Prop) (C r : Nat) (L : VL) (w : World) (hC : RAt w F C r L) (hr : r ≤ 100) :
    Calls Try.prog 16 #[.pointer (some ⟨C, 0, none⟩)] w (CloPost w (keys L)) := by
  obtain ⟨⟨p, cap, hB, hA, hcap, fB, fp⟩, hok, hli⟩ := hC
  have HL : Hid (L.length ≤ 100) := Lib.hid (by have := hok.len; omega)
  have KO := Lib.hid (prs_ok hok)
  have HC0 := Lib.hid hB; have HA0 := Lib.hid hA
  clear hok hli hcap fB fp hr hB hA
  go_enter Try.func16, Try.ntmps16
  go_wp2_with fail
  have h0 : RkRel w L (.slice (some ⟨w.heap.size, 0, none⟩) 0 0) (.int .i64 0) (w.alloc (.cells #[] 32)) := ⟨⟨0, by omega, rfl, some ⟨w.heap.size, 0, none⟩, 0, rfl, Sl.own_empty fH w⟩, (new_alloc w _).below⟩
  go_loopw [3, 4] (fun s i wr => RkRel w L s i wr) (fun _ i _ => L.length - (intOf i).toNat)
  case atStart => exact h0
  case round =>
    clear h0
    obtain ⟨⟨k, hk, rfl, q, c, rfl, hO⟩, bel⟩ := hrel
    have hCr := HC0.out.old bel; have hAr := HA0.out.below bel
    have hL := HL.out
    have hc0 := hCr.cell (i := 0) rfl
    by_cases hlt : k < L.length
    · obtain ⟨x, g, o, hx, kx, hp, hg, hrx⟩ := hAr.get hlt
      subst hp
      have KX : Hid (H32 x.1) := Lib.hid kx
      have ik : (k : Int) < (L.length : Int) := by omega
      have k100 : k < 100 := by omega
      have hrh : wr.rangeAt g (o + k * 33) (u8s x.1) := fun j v hj => hrx j v (by show (u8s x.1 ++ [Value.bool x.2])[j]? = some v; rw [List.getElem?_append_left (List.getElem?_eq_some_iff.1 hj).1]; exact hj)
      have HTK := Lib.hid (keys_at hx)
      have HLN : Hid (((keys L).take k).length + [x.1].length ≤ 1000000) := Lib.hid (by rw [List.length_take, keys_len, List.length_singleton]; omega)
      have BEL := Lib.hid bel
      have hsz := bel.size
      clear hx kx bel hAr hrx hL hCr
      go_wp2_with (first
        | ((with_reducible refine at_slot 21 ?_); (refine arm_want (.pointer (some ⟨g, o + k * 33, none⟩)) 21 rfl (by kernel_rfl) (Sl.run_op_index fP _ _ rfl g o _ _ rfl .i64 _ rfl k rfl (hlt) _) ?_); try simp only [Act.put, List.setIfInBounds_toArray, List.set_cons_zero, List.set_cons_succ])
        | ((with_reducible refine at_slot 23 ?_); (refine arm_load (o := ⟨some 23, _, _, _, _, _⟩) rfl _ _ rfl g (o + k * 33) rfl (u8s x.1) (hrh) (szH KX.out) ?_); try simp only [Act.put, List.setIfInBounds_toArray, List.set_cons_zero, List.set_cons_succ])
        | ((with_reducible refine at_slot 24 ?_); (refine Sl.arm_lit (o := ⟨some 24, _, _, _, _, _⟩) rfl fH [x.1] (Sl.allOk_cons KX.out Sl.allOk_nil) (by simp) _ _ rfl rfl (by simp only [List.map_toArray, List.map_cons, List.map_nil]; rfl) ?_); intro b v1 be hv1 nv1; try simp only [Act.put, List.setIfInBounds_toArray, List.set_cons_zero, List.set_cons_succ])
        | ((with_reducible refine at_slot 25 ?_); (refine Sl.arm_appendQ (o := ⟨some 25, _, _, _, _, _⟩) rfl fH _ _ rfl w.heap.size q _ c ((keys L).take k) rfl rfl (hO.below nv1.below) (some ⟨b, 0, none⟩) 1 1 [x.1] rfl rfl (Sl.At.row (c := []) fH (Sl.allOk_cons KX.out Sl.allOk_nil) hv1 (List.append_nil _).symm) HLN.out (Nat.le_trans hsz nv1.below.size) ?_); intro p' cap' w' hO2 hB2 hk2 hb2; try simp only [Act.put, List.setIfInBounds_toArray, List.set_cons_zero, List.set_cons_succ]))
      rw [HTK.out] at hO2
      go_roundw
      case rel => exact ⟨⟨k + 1, by omega, by go_num, p', cap', by rw [HTK.out], hO2⟩, below_step BEL.out BEL.out.size nv1.below |>.trans hB2⟩
      case measure => simp [intOf]; omega
    · obtain rfl : k = L.length := by omega
      clear hL hAr hCr
      have HB := Lib.hid bel
      have HT0 : Hid ((keys L).take L.length = keys L) := Lib.hid (by rw [← keys_len, List.take_length])
      clear bel
      go_wp2_with fail
      go_ret
      rw [HT0.out] at hO
      exact ⟨⟨q, c, by rw [HT0.out]; rfl, hO⟩, HB.out⟩
structure SmRel (w : World) (l m : List (List Nat)) (i : Value) (wr : World) : Prop where
  ex : ∃ k : Nat, k ≤ l.length ∧ i = .int .i64 (k : Int) ∧ l.take k = m.take k
  bel : Below w.heap.size w wr
set_option maxHeartbeats 4000000 in
set_option maxRecDepth 100000 in
theorem same_any (l m : List (List Nat)) (p q : Option Addr) (cp cq : Nat) (w : World) (hp : At kH w p l) (hq : At kH w q m) (hl : l.length ≤ 1000000) :
    Calls Try.prog 14 #[.slice p l.length cp, .slice q m.length cq] w fun e w' => e = .returned (.bool (decide (l = m))) ∧ Below w.heap.size w w' := by
  by_cases hlen : l.length = m.length
  · have HP0 := Lib.hid hp; have HQ0 := Lib.hid hq; have HL := Lib.hid hl; have HLM := Lib.hid hlen
    have d1 : decide ((l.length : Int) = (m.length : Int)) = !false := decide_eq_true (by rw [hlen])
    clear hp hq hl hlen
    go_enter Try.func14, Try.ntmps14
    go_wp2_with (first
      | ((with_reducible refine at_slot 10 ?_); (refine arm_want (.bool false) 10 rfl (by kernel_rfl) (cmp_neq _ _ .i64 (by kernel_rfl) _ _ rfl .i64 (l.length : Int) (m.length : Int) rfl rfl false (d1) _) ?_); try simp only [Act.put, List.setIfInBounds_toArray, List.set_cons_zero, List.set_cons_succ]))
    have h0 : SmRel w l m (.int .i64 0) w := ⟨⟨0, by omega, rfl, rfl⟩, Below.refl _ _⟩
    go_loopw [5] (fun i wr => SmRel w l m i wr) (fun i _ => l.length - (intOf i).toNat)
    case atStart => exact h0
    case round =>
      clear h0
      obtain ⟨⟨k, hk, rfl, ht⟩, bel⟩ := hrel
      have hL := HL.out
      have hLM := HLM.out
      by_cases hlt : k < l.length
      · obtain ⟨x, g, o, hx, kx, e1, hg, hrx⟩ := (HP0.out.below bel).get hlt
        obtain ⟨y, g2, o2, hy, ky, e2, hg2, hry⟩ := (HQ0.out.below bel).get (show k < m.length by omega)
        subst e1 e2
        have KX : Hid (H32 x) := Lib.hid kx
        have KY : Hid (H32 y) := Lib.hid ky
        have hlt2 : k < m.length := by omega
        have ik : (k : Int) < (l.length : Int) := by omega
        have k100 : k < 1000000 := by omega
        have hrx2 : wr.rangeAt g (o + k * 32) (u8s x) := hrx
        have hry2 : wr.rangeAt g2 (o2 + k * 32) (u8s y) := hry
        have HX := Lib.hid hx; have HY := Lib.hid hy; have HTT := Lib.hid ht
        have BEL := Lib.hid bel
        clear hx hy kx ky bel hrx hry hL hLM ht
        have bel0 : Chg (fun _ => False) wr wr := Chg.refl _ _
        by_cases he : x = y
        · skip
          have de : (!decide (x = y)) = false := by rw [decide_eq_true he]; rfl
          go_wp2_with fail
          refine wp_region_held (S := fun w' => w'.rangeAt g (o + k * 32) (u8s x) ∧ w'.rangeAt g2 (o2 + k * 32) (u8s y) ∧ True) (by kernel_rfl) ?_
          change wpAnyH _ _ _ _ _ _ _ _ wr.drew
          have hd1 : Below wr.heap.size wr wr.drew := (Below.refl _ _).drew
          have D_2 : wr.drew.rangeAt g (o + k * 32) (u8s x) := range_u8 hrx2 KX.out hd1
          have E_2 : wr.drew.rangeAt g2 (o2 + k * 32) (u8s y) := range_u8 hry2 KY.out hd1
          have bel_2 : Chg (fun _ => False) wr wr.drew := bel0.old hd1
          clear hrx2 hry2 bel0 hd1
          generalize wr.drew = yz1 at D_2 E_2 bel_2 ⊢
          refine h_take 0 (.slice (some ⟨g, o, none⟩) l.length cp) rfl 17 rfl (by kernel_rfl) (by kernel_rfl) (by kernel_rfl) (by kernel_rfl) (fun _ _ _ h => h) (fun w' _ => by kernel_rfl) ⟨D_2, E_2, trivial⟩ ?_
          simp only [Act.put, List.setIfInBounds_toArray, List.set_cons_zero, List.set_cons_succ]
          refine h_take 1 (.int .i64 (k : Int)) rfl 18 rfl (by kernel_rfl) (by kernel_rfl) (by kernel_rfl) (by kernel_rfl) (fun _ _ _ h => h) (fun w' _ => by kernel_rfl) ⟨D_2, E_2, trivial⟩ ?_
          simp only [Act.put, List.setIfInBounds_toArray, List.set_cons_zero, List.set_cons_succ]
          refine h_take 2 (.pointer (some ⟨g, o + k * 32, none⟩)) rfl 19 rfl (by kernel_rfl) (by kernel_rfl) (by kernel_rfl) (by kernel_rfl) (fun _ _ _ h => h) (fun w' _ => Sl.run_op_index fH _ _ rfl g o _ _ rfl .i64 _ rfl k rfl (hlt) w') ⟨D_2, E_2, trivial⟩ ?_
          simp only [Act.put, List.setIfInBounds_toArray, List.set_cons_zero, List.set_cons_succ]
          refine h_take 3 (.agg (u8s x).toArray) rfl 20 rfl (by kernel_rfl) (by kernel_rfl) (by kernel_rfl) (by kernel_rfl) (fun _ _ _ h => h) (fun w' hw => run_op_load _ _ rfl g (o + k * 32) rfl (u8s x) hw.1 (szH KX.out)) ⟨D_2, E_2, trivial⟩ ?_
          simp only [Act.put, List.setIfInBounds_toArray, List.set_cons_zero, List.set_cons_succ]
          refine h_take 4 (.slice (some ⟨g2, o2, none⟩) m.length cq) rfl 21 rfl (by kernel_rfl) (by kernel_rfl) (by kernel_rfl) (by kernel_rfl) (fun _ _ _ h => h) (fun w' _ => by kernel_rfl) ⟨D_2, E_2, trivial⟩ ?_
          simp only [Act.put, List.setIfInBounds_toArray, List.set_cons_zero, List.set_cons_succ]
          refine h_take 5 (.int .i64 (k : Int)) rfl 22 rfl (by kernel_rfl) (by kernel_rfl) (by kernel_rfl) (by kernel_rfl) (fun _ _ _ h => h) (fun w' _ => by kernel_rfl) ⟨D_2, E_2, trivial⟩ ?_
          simp only [Act.put, List.setIfInBounds_toArray, List.set_cons_zero, List.set_cons_succ]
          refine h_take 6 (.pointer (some ⟨g2, o2 + k * 32, none⟩)) rfl 23 rfl (by kernel_rfl) (by kernel_rfl) (by kernel_rfl) (by kernel_rfl) (fun _ _ _ h => h) (fun w' _ => Sl.run_op_index fH _ _ rfl g2 o2 _ _ rfl .i64 _ rfl k rfl (hlt2) w') ⟨D_2, E_2, trivial⟩ ?_
          simp only [Act.put, List.setIfInBounds_toArray, List.set_cons_zero, List.set_cons_succ]
          refine h_take 7 (.agg (u8s y).toArray) rfl 24 rfl (by kernel_rfl) (by kernel_rfl) (by kernel_rfl) (by kernel_rfl) (fun _ _ _ h => h) (fun w' hw => run_op_load _ _ rfl g2 (o2 + k * 32) rfl (u8s y) hw.2.1 (szH KY.out)) ⟨D_2, E_2, trivial⟩ ?_
          simp only [Act.put, List.setIfInBounds_toArray, List.set_cons_zero, List.set_cons_succ]
          refine h_take 8 (.bool false) rfl 25 rfl (by kernel_rfl) (by kernel_rfl) (by kernel_rfl) (by kernel_rfl) (fun _ _ _ h => h) (fun w' _ => run_op_neqV _ _ _ rfl x y KX.out KY.out rfl rfl false de w') ⟨D_2, E_2, trivial⟩ ?_
          simp only [Act.put, List.setIfInBounds_toArray, List.set_cons_zero, List.set_cons_succ]
          refine wpAnyH_done (by kernel_rfl) ?_ _
          go_wp2_with fail
          go_roundw
          case rel => exact ⟨⟨k + 1, by omega, by go_num, by rw [List.take_add_one, List.take_add_one, HTT.out, HX.out, HY.out, he]⟩, BEL.out.trans ((bel_2.below (n := wr.heap.size) (fun k hk => hk.elim) (Nat.le_refl _)).mono BEL.out.size)⟩
          case measure => simp [intOf]; omega
        · skip
          have de : (!decide (x = y)) = true := by rw [decide_eq_false he]; rfl
          go_wp2_with fail
          refine wp_region_held (S := fun w' => w'.rangeAt g (o + k * 32) (u8s x) ∧ w'.rangeAt g2 (o2 + k * 32) (u8s y) ∧ True) (by kernel_rfl) ?_
          change wpAnyH _ _ _ _ _ _ _ _ wr.drew
          have hd1 : Below wr.heap.size wr wr.drew := (Below.refl _ _).drew
          have D_2 : wr.drew.rangeAt g (o + k * 32) (u8s x) := range_u8 hrx2 KX.out hd1
          have E_2 : wr.drew.rangeAt g2 (o2 + k * 32) (u8s y) := range_u8 hry2 KY.out hd1
          have bel_2 : Chg (fun _ => False) wr wr.drew := bel0.old hd1
          clear hrx2 hry2 bel0 hd1
          generalize wr.drew = yz1 at D_2 E_2 bel_2 ⊢
          refine h_take 0 (.slice (some ⟨g, o, none⟩) l.length cp) rfl 17 rfl (by kernel_rfl) (by kernel_rfl) (by kernel_rfl) (by kernel_rfl) (fun _ _ _ h => h) (fun w' _ => by kernel_rfl) ⟨D_2, E_2, trivial⟩ ?_
          simp only [Act.put, List.setIfInBounds_toArray, List.set_cons_zero, List.set_cons_succ]
          refine h_take 1 (.int .i64 (k : Int)) rfl 18 rfl (by kernel_rfl) (by kernel_rfl) (by kernel_rfl) (by kernel_rfl) (fun _ _ _ h => h) (fun w' _ => by kernel_rfl) ⟨D_2, E_2, trivial⟩ ?_
          simp only [Act.put, List.setIfInBounds_toArray, List.set_cons_zero, List.set_cons_succ]
          refine h_take 2 (.pointer (some ⟨g, o + k * 32, none⟩)) rfl 19 rfl (by kernel_rfl) (by kernel_rfl) (by kernel_rfl) (by kernel_rfl) (fun _ _ _ h => h) (fun w' _ => Sl.run_op_index fH _ _ rfl g o _ _ rfl .i64 _ rfl k rfl (hlt) w') ⟨D_2, E_2, trivial⟩ ?_
          simp only [Act.put, List.setIfInBounds_toArray, List.set_cons_zero, List.set_cons_succ]
          refine h_take 3 (.agg (u8s x).toArray) rfl 20 rfl (by kernel_rfl) (by kernel_rfl) (by kernel_rfl) (by kernel_rfl) (fun _ _ _ h => h) (fun w' hw => run_op_load _ _ rfl g (o + k * 32) rfl (u8s x) hw.1 (szH KX.out)) ⟨D_2, E_2, trivial⟩ ?_
          simp only [Act.put, List.setIfInBounds_toArray, List.set_cons_zero, List.set_cons_succ]
          refine h_take 4 (.slice (some ⟨g2, o2, none⟩) m.length cq) rfl 21 rfl (by kernel_rfl) (by kernel_rfl) (by kernel_rfl) (by kernel_rfl) (fun _ _ _ h => h) (fun w' _ => by kernel_rfl) ⟨D_2, E_2, trivial⟩ ?_
          simp only [Act.put, List.setIfInBounds_toArray, List.set_cons_zero, List.set_cons_succ]
          refine h_take 5 (.int .i64 (k : Int)) rfl 22 rfl (by kernel_rfl) (by kernel_rfl) (by kernel_rfl) (by kernel_rfl) (fun _ _ _ h => h) (fun w' _ => by kernel_rfl) ⟨D_2, E_2, trivial⟩ ?_
          simp only [Act.put, List.setIfInBounds_toArray, List.set_cons_zero, List.set_cons_succ]
          refine h_take 6 (.pointer (some ⟨g2, o2 + k * 32, none⟩)) rfl 23 rfl (by kernel_rfl) (by kernel_rfl) (by kernel_rfl) (by kernel_rfl) (fun _ _ _ h => h) (fun w' _ => Sl.run_op_index fH _ _ rfl g2 o2 _ _ rfl .i64 _ rfl k rfl (hlt2) w') ⟨D_2, E_2, trivial⟩ ?_
          simp only [Act.put, List.setIfInBounds_toArray, List.set_cons_zero, List.set_cons_succ]
          refine h_take 7 (.agg (u8s y).toArray) rfl 24 rfl (by kernel_rfl) (by kernel_rfl) (by kernel_rfl) (by kernel_rfl) (fun _ _ _ h => h) (fun w' hw => run_op_load _ _ rfl g2 (o2 + k * 32) rfl (u8s y) hw.2.1 (szH KY.out)) ⟨D_2, E_2, trivial⟩ ?_
          simp only [Act.put, List.setIfInBounds_toArray, List.set_cons_zero, List.set_cons_succ]
          refine h_take 8 (.bool true) rfl 25 rfl (by kernel_rfl) (by kernel_rfl) (by kernel_rfl) (by kernel_rfl) (fun _ _ _ h => h) (fun w' _ => run_op_neqV _ _ _ rfl x y KX.out KY.out rfl rfl true de w') ⟨D_2, E_2, trivial⟩ ?_
          simp only [Act.put, List.setIfInBounds_toArray, List.set_cons_zero, List.set_cons_succ]
          refine wpAnyH_done (by kernel_rfl) ?_ _
          go_wp2_with fail
          go_ret
          have hne : decide (l = m) = false := decide_eq_false (fun e => he (by have h1 := HX.out; rw [e, HY.out] at h1; exact (Option.some.inj h1).symm))
          exact ⟨by rw [hne]; rfl, BEL.out.trans ((bel_2.below (n := wr.heap.size) (fun k hk => hk.elim) (Nat.le_refl _)).mono BEL.out.size)⟩
      · obtain rfl : k = l.length := by omega
        have he : decide (l = m) = true := decide_eq_true (by rw [List.take_length, hLM, List.take_length] at ht; exact ht)
        have HE := Lib.hid he; have HB := Lib.hid bel
        clear he ht bel hL hLM
        go_wp2_with fail
        go_ret
        exact ⟨by rw [HE.out]; rfl, HB.out⟩
  · have d1 : decide ((l.length : Int) = (m.length : Int)) = !true := decide_eq_false (by omega)
    have HE : Hid (decide (l = m) = false) := Lib.hid (decide_eq_false (fun e => hlen (by rw [e])))
    clear hp hq hl hlen
    go_enter Try.func14, Try.ntmps14
    go_wp2_with (first
      | ((with_reducible refine at_slot 10 ?_); (refine arm_want (.bool true) 10 rfl (by kernel_rfl) (cmp_neq _ _ .i64 (by kernel_rfl) _ _ rfl .i64 (l.length : Int) (m.length : Int) rfl rfl true (d1) _) ?_); try simp only [Act.put, List.setIfInBounds_toArray, List.set_cons_zero, List.set_cons_succ]))
    go_ret
    exact ⟨by rw [HE.out]; rfl, Below.refl _ _⟩
end Go.Proofs.Ytbpghogdjpobnaa.Vd
