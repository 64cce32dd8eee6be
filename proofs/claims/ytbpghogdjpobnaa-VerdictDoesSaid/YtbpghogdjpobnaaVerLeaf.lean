/-
  The contracts of package verdict's New, Len, Known and Get. Over this seat's translation.
-/
import Derived.Test.YtbpghogdjpobnaaVerLib
namespace Go.Proofs.Ytbpghogdjpobnaa.Vd
open Go.ChangeShapes Go.WideShapes Go.ChangeAt Go.RowKit Go.Proofs.Ytbpghogdjpobnaa.Mem Go.Proofs.Ytbpghogdjpobnaa.Bt Go.Proofs.Ytbpghogdjpobnaa.Km
open Go.Proofs.Ytbpghogdjpobnaa.Ep (H32 zh zh_ok Has h_len szH zH fitH allH one_app)
open Go.Proofs.Ytbpghogdjpobnaa.Sl (Kind Own At bk)
set_option linter.unusedVariables false
set_option linter.unusedSimpArgs false

theorem built_cache (r mb : Nat) : Try.prog.built 51 [(0, .int .i64 (r : Int)), (1, .map (some mb))] = some (ccs r mb none 0 0).toArray := by kernel_rfl
structure NewPost (w : World) (room : Int) (e : Ending) (w' : World) : Prop where
  ex : (1 ≤ room ∧ room ≤ 100 ∧ ∃ B F, e = .returned (.tuple #[.pointer (some ⟨B, 0, none⟩), .int .i64 0]) ∧ CAt w' F B room.toNat [] ∧ From F w.heap.size) ∨ (¬ (1 ≤ room ∧ room ≤ 100) ∧ e = .returned (.tuple #[.pointer none, .int .i64 1]))
  bel : Below w.heap.size w w'
set_option maxHeartbeats 4000000 in
set_option maxRecDepth 100000 in
theorem new_any (room : Int) (w : World) :
    Calls Try.prog 7 #[.int .i64 room] w (NewPost w room) := by
  by_cases h1 : room < 1
  · have d1 : decide (room < 1) = true := decide_eq_true h1
    have HN : Hid (¬ (1 ≤ room ∧ room ≤ 100)) := Lib.hid (by omega)
    clear h1
    go_enter Try.func7, Try.ntmps7
    go_wp2_with (first
      | ((with_reducible refine at_slot 5 ?_); (refine arm_want (.bool true) 5 rfl (by kernel_rfl) (cmp_lss _ _ _ _ rfl .i64 (room) (1) rfl rfl true (d1) _) ?_); try simp only [Act.put, List.setIfInBounds_toArray, List.set_cons_zero, List.set_cons_succ]))
    go_ret2
    exact ⟨.inr ⟨HN.out, rfl⟩, Below.refl _ _⟩
  · by_cases h2 : 100 < room
    · have d1 : decide (room < 1) = false := decide_eq_false h1
      have d2 : decide (100 < room) = true := decide_eq_true h2
      have HN : Hid (¬ (1 ≤ room ∧ room ≤ 100)) := Lib.hid (by omega)
      clear h1 h2
      go_enter Try.func7, Try.ntmps7
      go_wp2_with (first
        | ((with_reducible refine at_slot 5 ?_); (refine arm_want (.bool false) 5 rfl (by kernel_rfl) (cmp_lss _ _ _ _ rfl .i64 (room) (1) rfl rfl false (d1) _) ?_); try simp only [Act.put, List.setIfInBounds_toArray, List.set_cons_zero, List.set_cons_succ])
        | ((with_reducible refine at_slot 8 ?_); (refine arm_want (.bool true) 8 rfl (by kernel_rfl) (cmp_gtr _ _ _ _ rfl .i64 (room) (100) rfl rfl true (d2) _) ?_); try simp only [Act.put, List.setIfInBounds_toArray, List.set_cons_zero, List.set_cons_succ]))
      go_ret2
      exact ⟨.inr ⟨HN.out, rfl⟩, Below.refl _ _⟩
    · obtain ⟨r, rfl⟩ : ∃ r : Nat, room = (r : Int) := ⟨room.toNat, by omega⟩
      have d1 : decide ((r : Int) < 1) = false := decide_eq_false h1
      have d2 : decide (100 < (r : Int)) = false := decide_eq_false h2
      have HR1 : Hid (1 ≤ r) := Lib.hid (by omega)
      have HR2 : Hid (r ≤ 100) := Lib.hid (by omega)
      have BC := Lib.hid built_cache
      clear h1 h2
      go_enter Try.func7, Try.ntmps7
      go_wp2_with (first
        | ((with_reducible refine at_slot 5 ?_); (refine arm_want (.bool false) 5 rfl (by kernel_rfl) (cmp_lss _ _ _ _ rfl .i64 ((r : Int)) (1) rfl rfl false (d1) _) ?_); try simp only [Act.put, List.setIfInBounds_toArray, List.set_cons_zero, List.set_cons_succ])
        | ((with_reducible refine at_slot 8 ?_); (refine arm_want (.bool false) 8 rfl (by kernel_rfl) (cmp_gtr _ _ _ _ rfl .i64 ((r : Int)) (100) rfl rfl false (d2) _) ?_); try simp only [Act.put, List.setIfInBounds_toArray, List.set_cons_zero, List.set_cons_succ])
        | ((with_reducible refine at_slot 11 ?_); (refine arm_makeMapK (o := ⟨some 11, _, _, _, _, _⟩) rfl _ _ rfl rfl hashV boolV hashOk ?_); intro mb v1 me hm nm; try simp only [Act.put, List.setIfInBounds_toArray, List.set_cons_zero, List.set_cons_succ])
        | ((with_reducible refine at_slot 12 ?_); (refine arm_build (o := ⟨some 12, _, _, _, _, _⟩) rfl _ _ rfl (ccs r mb none 0 0) (by simp only [List.map_toArray, List.map_cons, List.map_nil]; exact BC.out r mb) ?_); try simp only [Act.put, List.setIfInBounds_toArray, List.set_cons_zero, List.set_cons_succ])
        | ((with_reducible refine at_slot 13 ?_); (refine arm_box (o := ⟨some 13, _, _, _, _, _⟩) rfl _ _ rfl (ccs r mb none 0 0) rfl ?_); intro B v2 Be hv2 nv2; try simp only [Act.put, List.setIfInBounds_toArray, List.set_cons_zero, List.set_cons_succ]))
      go_ret2
      have hBl : w.heap.size ≤ B := by have := Be.out; have := nm.size; omega
      have hml : w.heap.size ≤ mb := by have := me.out; omega
      have hR1 := HR1.out; have hR2 := HR2.out
      have hb : Below w.heap.size w v2 := below_step nm.below nm.below.size nv2.below
      exact ⟨.inl ⟨by omega, by omega, B, fun k => k = B ∨ k = mb, rfl, ⟨⟨mb, none, 0, by rw [Int.toNat_natCast]; exact hv2, hm.old nv2.below, Sl.Own.nil _ _, .inl rfl, .inr rfl, fun g hg => by cases hg⟩, by rw [Int.toNat_natCast]; exact v_nil hR1, fun k hk => by rcases hk with rfl | rfl; exact hv2.lt; exact (hm.old nv2.below).lt⟩, fun k hk => by rcases hk with rfl | rfl <;> assumption⟩, hb⟩
set_option maxHeartbeats 4000000 in
set_option maxRecDepth 100000 in
theorem len_any (F : Nat → Prop) (B r : Nat) (L : VL) (w : World) (hC : CAt w F B r L) :
    Calls Try.prog 13 #[.pointer (some ⟨B, 0, none⟩)] w fun e w' => e = .returned (.int .i64 (L.length : Int)) ∧ w = w' := by
  obtain ⟨⟨mb, p, cap, hB, hM, hO, fB, fm, fp⟩, hok, hli⟩ := hC
  have HK := Lib.hid (keys_len L)
  have c2 := hB.cell (i := 2) rfl
  clear hok hli fp
  go_enter Try.func13, Try.ntmps13
  go_wp2_with fail
  go_ret
  exact ⟨by rw [← HK.out]; rfl, rfl⟩
set_option maxHeartbeats 4000000 in
set_option maxRecDepth 100000 in
theorem known_any (F : Nat → Prop) (B r : Nat) (L : VL) (w : World) (hC : CAt w F B r L) (hr : r ≤ 100) :
    Calls Try.prog 15 #[.pointer (some ⟨B, 0, none⟩)] w (CloPost w (keys L)) := by
  obtain ⟨⟨mb, p, cap, hB, hM, hO, fB, fm, fp⟩, hok, hli⟩ := hC
  have CC := Lib.hid (fun w0 h => clo_any p cap (keys L) w0 h (by rw [keys_len]; have := hok.len; omega))
  have HA := Lib.hid (hO.at fH)
  have c2 := hB.cell (i := 2) rfl
  clear hok hli fp hr hO hM
  go_enter Try.func15, Try.ntmps15
  go_wp2_with fail
  refine (CC.out _ HA.out).mono ?_
  rintro e y ⟨⟨q, c, rfl, hq⟩, hb⟩
  go_wp2_with fail
  go_ret
  exact ⟨⟨q, c, rfl, hq⟩, hb⟩
theorem z_ver : Mem.Zero Try.prog 53 [.bool false] := by unfold Mem.Zero; kernel_rfl
theorem sz_ver (b : Bool) : Sized Try.prog 53 [Value.bool b].length := ⟨.struct (Try.prog.fieldsOf 53), by kernel_rfl, rfl, by kernel_rfl⟩
set_option maxHeartbeats 4000000 in
set_option maxRecDepth 100000 in
theorem get_any (F : Nat → Prop) (B r : Nat) (L : VL) (h : List Nat) (w : World) (hC : CAt w F B r L) (hh : H32 h) :
    Calls Try.prog 11 #[.pointer (some ⟨B, 0, none⟩), .agg (u8s h).toArray] w fun e w' => e = .returned (.tuple #[.bool ((getV L h).getD false), .bool (getV L h).isSome]) ∧ Below w.heap.size w w' := by
  obtain ⟨⟨mb, p, cap, hB, hM, hO, fB, fm, fp⟩, hok, hli⟩ := hC
  have HV : Hid ((if true then Value.tuple #[((Km.look L h).map boolV).getD (boolV false), .bool (Km.look L h).isSome] else ((Km.look L h).map boolV).getD (boolV false)) = .tuple #[.agg #[.bool ((getV L h).getD false)], .bool (getV L h).isSome]) := Lib.hid (lookV L h)
  obtain ⟨v, hv⟩ : ∃ v, v = (getV L h).getD false := ⟨_, rfl⟩
  obtain ⟨s, hs⟩ : ∃ s, s = (getV L h).isSome := ⟨_, rfl⟩
  rw [← hv, ← hs] at HV ⊢
  have KH := Lib.hid hh
  have HH : Hid (hashOk h) := Lib.hid hh.len
  clear hok hli fp hO fB fm hv hs hh
  go_enter Try.func11, Try.ntmps11
  have bel0 : Chg (fun _ => False) w w := Chg.refl _ _
  go_wp2_with (first
    | ((with_reducible refine at_slot 3 ?_); (refine arm_box (o := ⟨some 3, _, _, _, _, _⟩) rfl _ _ rfl (u8s h) rfl ?_); intro X v1 Xe hv1 nv1; try simp only [Act.put, List.setIfInBounds_toArray, List.set_cons_zero, List.set_cons_succ]))
  have hbv1 := nv1.below
  have rrv1 : Row v1 X 32 (u8s h) := hv1
  have geX : w.heap.size ≤ X := by have := Xe.out; have := bel0.size; omega
  have lXx : w.heap.size ≤ X := by have := Xe.out; omega
  clear hv1 nv1 Xe
  have B_2 : Row v1 B 51 (ccs r mb p (keys L).length cap) := hB.old hbv1
  have M_2 : VMap v1 mb L := hM.old hbv1
  have bel_2 : Chg (fun _ => False) w v1 := bel0.old hbv1
  clear hB hM bel0 hbv1
  refine wp_region_held (S := fun w' => Row w' B 51 (ccs r mb p (keys L).length cap) ∧ VMap w' mb L ∧ Row w' X 32 (u8s h) ∧ True) (by kernel_rfl) ?_
  change wpAnyH _ _ _ _ _ _ _ _ v1.drew
  have hd3 : Below v1.heap.size v1 v1.drew := (Below.refl _ _).drew
  have B_4 : Row v1.drew B 51 (ccs r mb p (keys L).length cap) := B_2.old hd3
  have M_4 : VMap v1.drew mb L := M_2.old hd3
  have X_4 : Row v1.drew X 32 (u8s h) := rrv1.old hd3
  have bel_4 : Chg (fun _ => False) w v1.drew := bel_2.old hd3
  clear B_2 M_2 rrv1 bel_2 hd3
  generalize v1.drew = yz3 at B_4 M_4 X_4 bel_4 ⊢
  refine h_take 0 (.pointer (some ⟨B, 0, none⟩)) rfl 9 rfl (by kernel_rfl) (by kernel_rfl) (by kernel_rfl) (by kernel_rfl) (fun _ _ _ h => h) (fun w' _ => by kernel_rfl) ⟨B_4, M_4, X_4, trivial⟩ ?_
  simp only [Act.put, List.setIfInBounds_toArray, List.set_cons_zero, List.set_cons_succ]
  refine h_take 1 (.pointer (some ⟨B, 0, none⟩)) rfl 10 rfl (by kernel_rfl) (by kernel_rfl) (by kernel_rfl) (by kernel_rfl) (fun _ _ _ h => h) (fun w' _ => by kernel_rfl) ⟨B_4, M_4, X_4, trivial⟩ ?_
  simp only [Act.put, List.setIfInBounds_toArray, List.set_cons_zero, List.set_cons_succ]
  refine h_take 2 (.pointer (some ⟨B, 1, none⟩)) rfl 11 rfl (by kernel_rfl) (by kernel_rfl) (by kernel_rfl) (by kernel_rfl) (fun _ _ _ h => h) (fun w' _ => by kernel_rfl) ⟨B_4, M_4, X_4, trivial⟩ ?_
  simp only [Act.put, List.setIfInBounds_toArray, List.set_cons_zero, List.set_cons_succ]
  refine h_take 3 (.map (some mb)) rfl 12 rfl (by kernel_rfl) (by kernel_rfl) (by kernel_rfl) (by kernel_rfl) (fun _ _ _ h => h) (fun w' hw => run_op_load1 _ _ rfl (.map 32 53) und_vm rfl ⟨B, 1, none⟩ rfl (.map (some mb)) (hw.1.cell (i := 1) rfl)) ⟨B_4, M_4, X_4, trivial⟩ ?_
  simp only [Act.put, List.setIfInBounds_toArray, List.set_cons_zero, List.set_cons_succ]
  refine h_take 4 (.agg (u8s h).toArray) rfl 13 rfl (by kernel_rfl) (by kernel_rfl) (by kernel_rfl) (by kernel_rfl) (fun _ _ _ h => h) (fun w' hw => run_op_load _ _ rfl X (0) rfl (u8s h) (((Has.refl _)).range hw.2.2.1) ((szH KH.out))) ⟨B_4, M_4, X_4, trivial⟩ ?_
  simp only [Act.put, List.setIfInBounds_toArray, List.set_cons_zero, List.set_cons_succ]
  refine h_take 5 (.tuple #[.agg #[.bool v], .bool s]) rfl 14 rfl (by kernel_rfl) (by kernel_rfl) (by kernel_rfl) (by kernel_rfl) (fun _ _ _ h => h) (fun w' hw => by rw [← HV.out]; exact run_op_lookupK _ _ _ true rfl rfl h HH.out rfl hw.2.1 hash_keys und_vm _ (zero_v _)) ⟨B_4, M_4, X_4, trivial⟩ ?_
  simp only [Act.put, List.setIfInBounds_toArray, List.set_cons_zero, List.set_cons_succ]
  refine h_take 6 (.tuple #[.agg #[.bool v], .bool s]) rfl 8 rfl (by kernel_rfl) (by kernel_rfl) (by kernel_rfl) (by kernel_rfl) (fun _ _ _ h => h) (fun w' _ => by kernel_rfl) ⟨B_4, M_4, X_4, trivial⟩ ?_
  simp only [Act.put, List.setIfInBounds_toArray, List.set_cons_zero, List.set_cons_succ]
  refine h_take 7 (.agg #[.bool v]) rfl 15 rfl (by kernel_rfl) (by kernel_rfl) (by kernel_rfl) (by kernel_rfl) (fun _ _ _ h => h) (fun w' _ => by kernel_rfl) ⟨B_4, M_4, X_4, trivial⟩ ?_
  simp only [Act.put, List.setIfInBounds_toArray, List.set_cons_zero, List.set_cons_succ]
  refine h_take 8 (.bool s) rfl 16 rfl (by kernel_rfl) (by kernel_rfl) (by kernel_rfl) (by kernel_rfl) (fun _ _ _ h => h) (fun w' _ => by kernel_rfl) ⟨B_4, M_4, X_4, trivial⟩ ?_
  simp only [Act.put, List.setIfInBounds_toArray, List.set_cons_zero, List.set_cons_succ]
  refine h_one (i := 9) (by kernel_rfl) (o_value _ rfl 6 rfl (by kernel_rfl) (run_op_alloc _ rfl [.bool false] z_ver) ?_)
  have hNy5 := (new_alloc yz3 (.cells ([.bool false] : List Value).toArray 53)).below
  have rNy5 : Row (yz3.alloc (.cells ([.bool false] : List Value).toArray 53)) yz3.heap.size 53 ([.bool false]) := heap_alloc_new _ _
  have geZ : w.heap.size ≤ yz3.heap.size := bel_4.size
  generalize yz3.alloc (.cells ([.bool false] : List Value).toArray 53) = y5 at hNy5 rNy5 ⊢
  have B_6 : Row y5 B 51 (ccs r mb p (keys L).length cap) := B_4.old hNy5
  have M_6 : VMap y5 mb L := M_4.old hNy5
  have X_6 : Row y5 X 32 (u8s h) := X_4.old hNy5
  have bel_6 : Chg (fun _ => False) w y5 := bel_4.old hNy5
  clear B_4 M_4 X_4 bel_4 hNy5
  generalize yz3.heap.size = Z at rNy5 geZ ⊢
  refine ⟨⟨B_6, M_6, X_6, trivial⟩, ?_⟩
  simp only [Act.put, List.setIfInBounds_toArray, List.set_cons_zero, List.set_cons_succ]
  have hZX : X ≠ Z := by have := X_6.lt; have := geZ; have := X_6.ne_type rNy5 (by decide); exact this
  have hZB : B ≠ Z := B_6.ne_type rNy5 (by decide)
  have hZM : mb ≠ Z := M_6.row rNy5
  refine h_one (i := 10) (by kernel_rfl) (o_skip rfl rfl (by kernel_rfl) (run_op_store _ _ _ rfl Z (0) rfl ([.bool v]) rfl _ _ rNy5 (Nat.le_refl 1) (one_bool _) (sz_ver v)) ?_)
  have rq := row_setRow rNy5 (lay ([.bool false]) (0) ([.bool v]))
  have oq := Only.setRow Z y5 (lay ([.bool false]) (0) ([.bool v])).toArray
  generalize y5.setRow Z (lay ([.bool false]) (0) ([.bool v])).toArray = y7 at rq oq ⊢
  have B_8 : Row y7 B 51 (ccs r mb p (keys L).length cap) := B_6.only oq hZB
  have M_8 : VMap y7 mb L := M_6.only oq hZM
  have X_8 : Row y7 X 32 (u8s h) := X_6.only oq hZX
  have Z_8 : Row y7 Z 53 ([.bool v]) := rq.congr (lay_all [.bool false] [.bool v] rfl)
  have bel_8 : Chg (fun _ => False) w y7 := bel_6.new oq (geZ)
  clear B_6 M_6 X_6 rNy5 bel_6 oq
  clear rq
  refine ⟨⟨B_8, M_8, X_8, trivial⟩, ?_⟩
  refine h_take 11 (.bool s) rfl 7 rfl (by kernel_rfl) (by kernel_rfl) (by kernel_rfl) (by kernel_rfl) (fun _ _ _ h => h) (fun w' _ => by kernel_rfl) ⟨B_8, M_8, X_8, trivial⟩ ?_
  simp only [Act.put, List.setIfInBounds_toArray, List.set_cons_zero, List.set_cons_succ]
  refine wpAnyH_done (by kernel_rfl) ?_ _
  have cz := Z_8.cell (i := 0) rfl
  go_wp2_with fail
  go_ret2
  exact ⟨rfl, bel_8.below (fun k hk => hk.elim) (Nat.le_refl _)⟩
end Go.Proofs.Ytbpghogdjpobnaa.Vd
