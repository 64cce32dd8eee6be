/-
  The contracts of package tree's there and New. Over this seat's translation.
-/
import Derived.Test.YtpebadhknpohkaaDoorTreJoin
import Derived.LoopTactic
namespace Go.Proofs.YtpebadhknpohkaaDoor.Tr
open Go.ChangeShapes Go.WideShapes Go.ChangeAt Go.RowKit Go.Proofs.YtpebadhknpohkaaDoor.Mem Go.Proofs.YtpebadhknpohkaaDoor.Bt Go.Proofs.YtpebadhknpohkaaDoor.Wi Go.Proofs.YtpebadhknpohkaaDoor.Sha Go.Proofs.YtpebadhknpohkaaDoor.Ac Go.Proofs.YtpebadhknpohkaaDoor.Im
open Go.Proofs.YtpebadhknpohkaaDoor.Tg (bytesOf bytesOf_length bytesOf_lt bytesOf_inj Rd Rd.below Parts parts_one arm_one tagD tagD_len tagOf_any refTag_any total)
open Go.Proofs.YtpebadhknpohkaaDoor.Ep (H32 zh zh_ok Has h_len szH zH fitH allH came_at)
set_option linter.unusedVariables false
set_option linter.unusedSimpArgs false

theorem run_op_addK {P : Program} {o : Oper} {a : Act} (t t' : TypeId) (x y : Operand) (ho : o.op = .binOp .add t x y t') (m n r : Int) (hx : a.eval x = .int .i64 m) (hy : a.eval y = .int .i64 n) (hr : IntKind.i64.wrap (m + n) = r) (w : World) :
    (execOp a.eval o).run P w = .ok (.value (.int .i64 r)) w := by
  subst hr
  unfold execOp
  simp [ho, hx, hy, eqGuard, binOp, Op.intArith]
set_option maxHeartbeats 4000000 in
set_option maxRecDepth 100000 in
theorem there_any (p : Int) (w : World) :
    Calls Tryd.prog 27 #[.int .i64 p] w fun e w' => e = .returned (.bool (decide (0 ≤ p ∧ p < 16))) ∧ w = w' := by
  by_cases h0 : 0 ≤ p
  · have d0 : decide ((0 : Int) ≤ p) = true := decide_eq_true h0
    have hd : decide (0 ≤ p ∧ p < 16) = decide (p < 16) := by simp [h0]
    rw [hd]
    clear hd
    go_enter Tryd.func27, Tryd.ntmps27
    go_wp2_with fail
    go_ret
    exact ⟨rfl, rfl⟩
  · have d0 : decide ((0 : Int) ≤ p) = false := decide_eq_false h0
    have hd : decide (0 ≤ p ∧ p < 16) = false := decide_eq_false fun h => h0 h.1
    rw [hd]
    clear hd
    go_enter Tryd.func27, Tryd.ntmps27
    go_wp2_with fail
    go_ret
    exact ⟨rfl, rfl⟩
theorem built_tree (mb : Nat) : Tryd.prog.built 67 [(0, .map (some mb))] = some (tcs mb z5).toArray := by kernel_rfl
/-- The bare digests that are known behind so many rounds. -/
def bl : Nat → List (List Nat)
  | 0 => z5.set 0 (bareD 0)
  | k + 1 => (bl k).set (k + 1) (bareD (k + 1))
theorem bl_ok : ∀ k, ∀ x ∈ bl k, H32 x
  | 0 => all_set z5_ok (bareD_ok 0) 0
  | k + 1 => all_set (bl_ok k) (bareD_ok (k + 1)) (k + 1)
theorem bl_len : ∀ k, (bl k).length = 5
  | 0 => rfl
  | k + 1 => by unfold bl; rw [List.length_set, bl_len k]
theorem bl_get : ∀ k, k ≤ 4 → (bl k)[k]? = some (bareD k)
  | 0, _ => rfl
  | k + 1, h => by unfold bl; rw [List.getElem?_set_self (by rw [bl_len]; omega)]
theorem bl_all : bl 4 = b5 := rfl
theorem tcs_len (mb : Nat) {L : List (List Nat)} (h : ∀ x ∈ L, H32 x) (hl : L.length = 5) : (tcs mb L).length = 161 := by unfold tcs; rw [List.length_append, dgC_len L h, hl]; rfl
theorem tree_lay (mb : Nat) {L : List (List Nat)} (h : ∀ x ∈ L, H32 x) {d : List Nat} (kd : H32 d) {i : Nat} (hi : i < L.length) : lay (tcs mb L) (1 + 32 * i) (u8s d) = tcs mb (L.set i d) := dg_lay L [.map (some mb)] i d h kd hi
theorem tree_has (mb : Nat) {L : List (List Nat)} (h : ∀ x ∈ L, H32 x) {d : List Nat} {i : Nat} (hi : L[i]? = some d) : Has (tcs mb L) (1 + 32 * i) (u8s d) := dg_has L [.map (some mb)] i d h hi
theorem bl_prev {k : Nat} (h : k ≤ 4) : (bl (k + 1))[k]? = some (bareD k) := by
  unfold bl
  rw [List.getElem?_set_ne (by omega)]
  exact bl_get k h
theorem range_old {w w' : World} {b o k : Nat} (h : w.rangeAt b o (u8s (bareD k))) (hb : Below w.heap.size w w') : w'.rangeAt b o (u8s (bareD k)) :=
  range_block h (hb.block b (range_lt h (fun e => by have := congrArg List.length e; rw [h_len (bareD_ok k)] at this; cases this)))
structure NwRel (w : World) (B mb : Nat) (i : Value) (wr : World) : Prop where
  ex : ∃ k : Nat, k ≤ 4 ∧ i = .int .i64 (k : Int) ∧ Row wr B 67 (tcs mb (bl k))
  map : IMap wr mb VA bare
  bel : Below w.heap.size w wr
structure NewPost (w : World) (e : Ending) (w' : World) : Prop where
  ex : ∃ B mb, e = .returned (.pointer (some ⟨B, 0, none⟩)) ∧ TrAt w' B mb bare ∧ w.heap.size ≤ B ∧ w.heap.size ≤ mb
  bel : Below w.heap.size w w'
set_option maxHeartbeats 4000000 in
set_option maxRecDepth 100000 in
theorem new_any (w : World) (hk : w.rangeAt 0 0 (u32s ks)) :
    Calls Tryd.prog 9 #[] w (NewPost w) := by
  have hk1 : 0 < w.heap.size := range_lt hk (by simp [u32s, ks])
  have HKW : Hid (∀ w', Below w.heap.size w w' → w'.rangeAt 0 0 (u32s ks)) := Lib.hid fun w' hb => range_block hk (hb.block _ hk1)
  have CN : Hid (∀ w0, w0.rangeAt 0 0 (u32s ks) → Calls Tryd.prog 21 #[] w0 fun e w' => e = .returned (.agg (u8s (bareD 0)).toArray) ∧ Below w0.heap.size w0 w') := Lib.hid fun w0 h => anone_any w0 h
  have CJ : Hid (∀ (k : Nat) w0, k < 4 → w0.rangeAt 0 0 (u32s ks) → Calls Tryd.prog 23 #[.int .i64 ((k + 1 : Nat) : Int), .agg (u8s (bareD k)).toArray, .agg (u8s (bareD k)).toArray] w0 fun e w' => e = .returned (.agg (u8s (bareD (k + 1))).toArray) ∧ Below w0.heap.size w0 w') := Lib.hid fun k w0 hk4 h => join_any (k + 1) _ _ w0 (by omega) (bareD_ok k) (bareD_ok k) h
  clear hk hk1
  have BT := Lib.hid built_tree
  go_enter Tryd.func9, Tryd.ntmps9
  go_wp2_with (first
    | ((with_reducible refine at_slot 3 ?_); (refine arm_makeMapI (o := ⟨some 3, _, _, _, _, _⟩) rfl _ _ rfl rfl VA ?_); intro mb v1 me hm nm)
    | ((with_reducible refine at_slot 4 ?_); (refine arm_build (o := ⟨some 4, _, _, _, _, _⟩) rfl _ _ rfl (tcs mb z5) (by simp only [List.map_toArray, List.map_cons, List.map_nil]; exact BT.out mb) ?_))
    | ((with_reducible refine at_slot 5 ?_); (refine arm_box (o := ⟨some 5, _, _, _, _, _⟩) rfl _ _ rfl (tcs mb z5) rfl ?_); intro B v2 Be hv2 nv2))
  have gemb : w.heap.size ≤ mb := by have := me.out; omega
  have geB : w.heap.size ≤ B := by have := Be.out; have := nm.size; omega
  have bel0 : Below w.heap.size w v2 := below_step nm.below nm.below.size nv2.below
  have m0 : IMap v2 mb VA bare := hm.old nv2.below
  clear me hm nm Be nv2
  refine wp_region_held (S := fun w' => True) (by kernel_rfl) ?_
  change wpAnyH _ _ _ _ _ _ _ _ v2.drew
  have hd1 : Below v2.heap.size v2 v2.drew := (Below.refl _ _).drew
  have B_2 : Row v2.drew B 67 (tcs mb z5) := hv2.old hd1
  have M_2 : IMap v2.drew mb VA bare := m0.old hd1
  have bel_2 : Below w.heap.size w v2.drew := below_step bel0 bel0.size hd1
  clear hv2 m0 bel0 hd1
  generalize v2.drew = yz1 at B_2 M_2 bel_2 ⊢
  refine h_take 0 (.pointer (some ⟨B, 0, none⟩)) rfl 6 rfl (by kernel_rfl) (by kernel_rfl) (by kernel_rfl) (by kernel_rfl) (fun _ _ _ h => h) (fun w' _ => by kernel_rfl) trivial ?_
  simp only [Act.put, List.setIfInBounds_toArray, List.set_cons_zero, List.set_cons_succ]
  refine h_take 2 (.pointer (some ⟨B, 0, none⟩)) rfl 8 rfl (by kernel_rfl) (by kernel_rfl) (by kernel_rfl) (by kernel_rfl) (fun _ _ _ h => h) (fun w' _ => by kernel_rfl) trivial ?_
  simp only [Act.put, List.setIfInBounds_toArray, List.set_cons_zero, List.set_cons_succ]
  refine h_take 3 (.pointer (some ⟨B, 1, none⟩)) rfl 9 rfl (by kernel_rfl) (by kernel_rfl) (by kernel_rfl) (by kernel_rfl) (fun _ _ _ h => h) (fun w' _ => by kernel_rfl) trivial ?_
  simp only [Act.put, List.setIfInBounds_toArray, List.set_cons_zero, List.set_cons_succ]
  refine h_one (i := 1) (by kernel_rfl) (o_call rfl 7 rfl (by kernel_rfl) (run_op_call 21 _ _ rfl #[] (by simp only [List.map_toArray, List.map_nil]) Tryd.func21 (by kernel_rfl) (by kernel_rfl) _) (CN.out _ (HKW.out _ bel_2)) ?_)
  rintro e y3 ⟨rfl, hB⟩
  have B_4 : Row y3 B 67 (tcs mb z5) := B_2.old hB
  have M_4 : IMap y3 mb VA bare := M_2.old hB
  have bel_4 : Below w.heap.size w y3 := below_step bel_2 bel_2.size hB
  clear B_2 M_2 bel_2 hB
  refine ⟨_, rfl, trivial, ?_⟩
  simp only [Act.put, List.setIfInBounds_toArray, List.set_cons_zero, List.set_cons_succ]
  refine h_take 4 (.pointer (some ⟨B, 1, none⟩)) rfl 10 rfl (by kernel_rfl) (by kernel_rfl) (by kernel_rfl) (by kernel_rfl) (fun _ _ _ h => h) (fun w' _ => run_op_arr _ _ _ rfl 5 50 32 (by kernel_rfl) (by kernel_rfl) B 1 rfl .i64 _ rfl 0 rfl (by omega) (1) (rfl) w') trivial ?_
  simp only [Act.put, List.setIfInBounds_toArray, List.set_cons_zero, List.set_cons_succ]
  have hmB : mb ≠ B := M_4.row B_4
  refine h_one (i := 5) (by kernel_rfl) (o_skip rfl rfl (by kernel_rfl) (run_op_store _ _ _ rfl B (1 + 32 * 0) rfl (u8s (bareD 0)) rfl _ _ B_4 (by rw [tcs_len mb z5_ok rfl, h_len (bareD_ok 0)]; omega) (u8s_one _) (szH (bareD_ok 0))) ?_)
  have rq := row_setRow B_4 (lay (tcs mb z5) (1 + 32 * 0) (u8s (bareD 0)))
  have oq := Only.setRow B y3 (lay (tcs mb z5) (1 + 32 * 0) (u8s (bareD 0))).toArray
  generalize y3.setRow B (lay (tcs mb z5) (1 + 32 * 0) (u8s (bareD 0))).toArray = y5 at rq oq ⊢
  have B_6 : Row y5 B 67 (tcs mb (bl 0)) := rq.congr (tree_lay mb z5_ok (bareD_ok 0) (by decide))
  have M_6 : IMap y5 mb VA bare := M_4.only oq hmB
  have bel_6 : Below w.heap.size w y5 := below_only bel_4 oq geB bel_4.size
  clear B_4 M_4 bel_4 oq
  clear rq
  refine ⟨trivial, ?_⟩
  refine wpAnyH_done (by kernel_rfl) ?_ _
  go_wp2_with fail
  try simp only [Act.put]
  have h0 : NwRel w B mb (.int .i64 0) y5 := ⟨⟨0, by omega, rfl, B_6⟩, M_6, bel_6⟩
  clear B_6 M_6 bel_6 CN BT
  go_loopw [11] (fun i wr => NwRel w B mb i wr) (fun i _ => 4 - (intOf i).toNat)
  case atStart => exact h0
  case round =>
    clear h0
    obtain ⟨⟨k, hk, rfl, hrow⟩, hmap, bel⟩ := hrel
    by_cases hlt : k < 4
    · have ik : (k : Int) < 4 := by omega
      have hD : wr.rangeAt B (1 + 32 * k) (u8s (bareD k)) := (tree_has mb (bl_ok k) (bl_get k hk)).range hrow
      have hw1 : IntKind.i64.wrap ((k : Int) + 1) = ((k + 1 : Nat) : Int) := by rw [IntKind.wrap_i64]; omega
      have HW1 := Lib.hid hw1
      have CJ := Lib.hid (CJ.out k)
      clear hw1
      go_wp2_with fail
      refine wp_region_held (S := fun w' => w'.rangeAt B (1 + 32 * k) (u8s (bareD k)) ∧ True) (by kernel_rfl) ?_
      change wpAnyH _ _ _ _ _ _ _ _ wr.drew
      have hd201 : Below wr.heap.size wr wr.drew := (Below.refl _ _).drew
      have B_202 : Row wr.drew B 67 (tcs mb (bl k)) := hrow.old hd201
      have M_202 : IMap wr.drew mb VA bare := hmap.old hd201
      have D_202 : wr.drew.rangeAt B (1 + 32 * k) (u8s (bareD k)) := range_old hD hd201
      have bel_202 : Below w.heap.size w wr.drew := below_step bel bel.size hd201
      clear hrow hmap hD bel hd201
      generalize wr.drew = yz201 at B_202 M_202 D_202 bel_202 ⊢
      refine h_take 0 (.pointer (some ⟨B, 0, none⟩)) rfl 14 rfl (by kernel_rfl) (by kernel_rfl) (by kernel_rfl) (by kernel_rfl) (fun _ _ _ h => h) (fun w' _ => by kernel_rfl) ⟨D_202, trivial⟩ ?_
      simp only [Act.put, List.setIfInBounds_toArray, List.set_cons_zero, List.set_cons_succ]
      refine h_take 1 (.int .i64 (k : Int)) rfl 15 rfl (by kernel_rfl) (by kernel_rfl) (by kernel_rfl) (by kernel_rfl) (fun _ _ _ h => h) (fun w' _ => by kernel_rfl) ⟨D_202, trivial⟩ ?_
      simp only [Act.put, List.setIfInBounds_toArray, List.set_cons_zero, List.set_cons_succ]
      refine h_take 2 (.int .i64 ((k + 1 : Nat) : Int)) rfl 16 rfl (by kernel_rfl) (by kernel_rfl) (by kernel_rfl) (by kernel_rfl) (fun _ _ _ h => h) (fun w' _ => run_op_addK _ _ _ _ rfl _ _ _ rfl rfl HW1.out w') ⟨D_202, trivial⟩ ?_
      simp only [Act.put, List.setIfInBounds_toArray, List.set_cons_zero, List.set_cons_succ]
      refine h_take 3 (.int .i64 (k : Int)) rfl 17 rfl (by kernel_rfl) (by kernel_rfl) (by kernel_rfl) (by kernel_rfl) (fun _ _ _ h => h) (fun w' _ => by kernel_rfl) ⟨D_202, trivial⟩ ?_
      simp only [Act.put, List.setIfInBounds_toArray, List.set_cons_zero, List.set_cons_succ]
      refine h_take 4 (.int .i64 ((k + 1 : Nat) : Int)) rfl 18 rfl (by kernel_rfl) (by kernel_rfl) (by kernel_rfl) (by kernel_rfl) (fun _ _ _ h => h) (fun w' _ => run_op_addK _ _ _ _ rfl _ _ _ rfl rfl HW1.out w') ⟨D_202, trivial⟩ ?_
      simp only [Act.put, List.setIfInBounds_toArray, List.set_cons_zero, List.set_cons_succ]
      refine h_take 5 (.pointer (some ⟨B, 0, none⟩)) rfl 19 rfl (by kernel_rfl) (by kernel_rfl) (by kernel_rfl) (by kernel_rfl) (fun _ _ _ h => h) (fun w' _ => by kernel_rfl) ⟨D_202, trivial⟩ ?_
      simp only [Act.put, List.setIfInBounds_toArray, List.set_cons_zero, List.set_cons_succ]
      refine h_take 6 (.int .i64 (k : Int)) rfl 20 rfl (by kernel_rfl) (by kernel_rfl) (by kernel_rfl) (by kernel_rfl) (fun _ _ _ h => h) (fun w' _ => by kernel_rfl) ⟨D_202, trivial⟩ ?_
      simp only [Act.put, List.setIfInBounds_toArray, List.set_cons_zero, List.set_cons_succ]
      refine h_take 7 (.pointer (some ⟨B, 0, none⟩)) rfl 21 rfl (by kernel_rfl) (by kernel_rfl) (by kernel_rfl) (by kernel_rfl) (fun _ _ _ h => h) (fun w' _ => by kernel_rfl) ⟨D_202, trivial⟩ ?_
      simp only [Act.put, List.setIfInBounds_toArray, List.set_cons_zero, List.set_cons_succ]
      refine h_take 8 (.pointer (some ⟨B, 1, none⟩)) rfl 22 rfl (by kernel_rfl) (by kernel_rfl) (by kernel_rfl) (by kernel_rfl) (fun _ _ _ h => h) (fun w' _ => by kernel_rfl) ⟨D_202, trivial⟩ ?_
      simp only [Act.put, List.setIfInBounds_toArray, List.set_cons_zero, List.set_cons_succ]
      refine h_take 9 (.pointer (some ⟨B, 1 + 32 * k, none⟩)) rfl 23 rfl (by kernel_rfl) (by kernel_rfl) (by kernel_rfl) (by kernel_rfl) (fun _ _ _ h => h) (fun w' _ => run_op_arr _ _ _ rfl 5 50 32 (by kernel_rfl) (by kernel_rfl) B 1 rfl .i64 _ rfl k rfl (by omega) (1 + 32 * k) (by omega) w') ⟨D_202, trivial⟩ ?_
      simp only [Act.put, List.setIfInBounds_toArray, List.set_cons_zero, List.set_cons_succ]
      refine h_take 10 (.agg (u8s (bareD k)).toArray) rfl 24 rfl (by kernel_rfl) (by kernel_rfl) (by kernel_rfl) (by kernel_rfl) (fun _ _ _ h => h) (fun w' hw => run_op_load _ _ rfl B (1 + 32 * k) rfl (u8s (bareD k)) hw.1 (szH (bareD_ok k))) ⟨D_202, trivial⟩ ?_
      simp only [Act.put, List.setIfInBounds_toArray, List.set_cons_zero, List.set_cons_succ]
      refine h_take 11 (.pointer (some ⟨B, 0, none⟩)) rfl 25 rfl (by kernel_rfl) (by kernel_rfl) (by kernel_rfl) (by kernel_rfl) (fun _ _ _ h => h) (fun w' _ => by kernel_rfl) ⟨D_202, trivial⟩ ?_
      simp only [Act.put, List.setIfInBounds_toArray, List.set_cons_zero, List.set_cons_succ]
      refine h_take 12 (.int .i64 (k : Int)) rfl 26 rfl (by kernel_rfl) (by kernel_rfl) (by kernel_rfl) (by kernel_rfl) (fun _ _ _ h => h) (fun w' _ => by kernel_rfl) ⟨D_202, trivial⟩ ?_
      simp only [Act.put, List.setIfInBounds_toArray, List.set_cons_zero, List.set_cons_succ]
      refine h_take 13 (.pointer (some ⟨B, 0, none⟩)) rfl 27 rfl (by kernel_rfl) (by kernel_rfl) (by kernel_rfl) (by kernel_rfl) (fun _ _ _ h => h) (fun w' _ => by kernel_rfl) ⟨D_202, trivial⟩ ?_
      simp only [Act.put, List.setIfInBounds_toArray, List.set_cons_zero, List.set_cons_succ]
      refine h_take 14 (.pointer (some ⟨B, 1, none⟩)) rfl 28 rfl (by kernel_rfl) (by kernel_rfl) (by kernel_rfl) (by kernel_rfl) (fun _ _ _ h => h) (fun w' _ => by kernel_rfl) ⟨D_202, trivial⟩ ?_
      simp only [Act.put, List.setIfInBounds_toArray, List.set_cons_zero, List.set_cons_succ]
      refine h_take 15 (.pointer (some ⟨B, 1 + 32 * k, none⟩)) rfl 29 rfl (by kernel_rfl) (by kernel_rfl) (by kernel_rfl) (by kernel_rfl) (fun _ _ _ h => h) (fun w' _ => run_op_arr _ _ _ rfl 5 50 32 (by kernel_rfl) (by kernel_rfl) B 1 rfl .i64 _ rfl k rfl (by omega) (1 + 32 * k) (by omega) w') ⟨D_202, trivial⟩ ?_
      simp only [Act.put, List.setIfInBounds_toArray, List.set_cons_zero, List.set_cons_succ]
      refine h_take 16 (.agg (u8s (bareD k)).toArray) rfl 30 rfl (by kernel_rfl) (by kernel_rfl) (by kernel_rfl) (by kernel_rfl) (fun _ _ _ h => h) (fun w' hw => run_op_load _ _ rfl B (1 + 32 * k) rfl (u8s (bareD k)) hw.1 (szH (bareD_ok k))) ⟨D_202, trivial⟩ ?_
      simp only [Act.put, List.setIfInBounds_toArray, List.set_cons_zero, List.set_cons_succ]
      refine h_take 18 (.pointer (some ⟨B, 0, none⟩)) rfl 32 rfl (by kernel_rfl) (by kernel_rfl) (by kernel_rfl) (by kernel_rfl) (fun _ _ _ h => h) (fun w' _ => by kernel_rfl) ⟨D_202, trivial⟩ ?_
      simp only [Act.put, List.setIfInBounds_toArray, List.set_cons_zero, List.set_cons_succ]
      refine h_take 19 (.pointer (some ⟨B, 1, none⟩)) rfl 33 rfl (by kernel_rfl) (by kernel_rfl) (by kernel_rfl) (by kernel_rfl) (fun _ _ _ h => h) (fun w' _ => by kernel_rfl) ⟨D_202, trivial⟩ ?_
      simp only [Act.put, List.setIfInBounds_toArray, List.set_cons_zero, List.set_cons_succ]
      refine h_one (i := 17) (by kernel_rfl) (o_call rfl 31 rfl (by kernel_rfl) (run_op_call 23 _ _ rfl #[.int .i64 ((k + 1 : Nat) : Int), .agg (u8s (bareD k)).toArray, .agg (u8s (bareD k)).toArray] (by simp only [List.map_toArray, List.map_cons, List.map_nil]; rfl) Tryd.func23 (by kernel_rfl) (by kernel_rfl) _) (CJ.out _ hlt (HKW.out _ bel_202)) ?_)
      rintro e y203 ⟨rfl, hB⟩
      have B_204 : Row y203 B 67 (tcs mb (bl k)) := B_202.old hB
      have M_204 : IMap y203 mb VA bare := M_202.old hB
      have D_204 : y203.rangeAt B (1 + 32 * k) (u8s (bareD k)) := range_old D_202 hB
      have bel_204 : Below w.heap.size w y203 := below_step bel_202 bel_202.size hB
      clear B_202 M_202 D_202 bel_202 hB
      refine ⟨_, rfl, ⟨D_204, trivial⟩, ?_⟩
      simp only [Act.put, List.setIfInBounds_toArray, List.set_cons_zero, List.set_cons_succ]
      refine h_take 20 (.pointer (some ⟨B, 1 + 32 * (k + 1), none⟩)) rfl 34 rfl (by kernel_rfl) (by kernel_rfl) (by kernel_rfl) (by kernel_rfl) (fun _ _ _ h => h) (fun w' _ => run_op_arr _ _ _ rfl 5 50 32 (by kernel_rfl) (by kernel_rfl) B 1 rfl .i64 _ rfl (k + 1) rfl (by omega) (1 + 32 * (k + 1)) (by omega) w') ⟨D_204, trivial⟩ ?_
      simp only [Act.put, List.setIfInBounds_toArray, List.set_cons_zero, List.set_cons_succ]
      have hmB : mb ≠ B := M_204.row B_204
      refine h_one (i := 21) (by kernel_rfl) (o_skip rfl rfl (by kernel_rfl) (run_op_store _ _ _ rfl B (1 + 32 * (k + 1)) rfl (u8s (bareD (k + 1))) rfl _ _ B_204 (by rw [tcs_len mb (bl_ok k) (bl_len k), h_len (bareD_ok (k + 1))]; omega) (u8s_one _) (szH (bareD_ok (k + 1)))) ?_)
      have rq := row_setRow B_204 (lay (tcs mb (bl k)) (1 + 32 * (k + 1)) (u8s (bareD (k + 1))))
      have oq := Only.setRow B y203 (lay (tcs mb (bl k)) (1 + 32 * (k + 1)) (u8s (bareD (k + 1)))).toArray
      generalize y203.setRow B (lay (tcs mb (bl k)) (1 + 32 * (k + 1)) (u8s (bareD (k + 1)))).toArray = y205 at rq oq ⊢
      have B_206 : Row y205 B 67 (tcs mb (bl (k + 1))) := rq.congr (tree_lay mb (bl_ok k) (bareD_ok (k + 1)) (by rw [bl_len]; omega))
      have M_206 : IMap y205 mb VA bare := M_204.only oq hmB
      have D_206 : y205.rangeAt B (1 + 32 * k) (u8s (bareD k)) := (tree_has mb (bl_ok (k + 1)) (bl_prev hk)).range (rq.congr (tree_lay mb (bl_ok k) (bareD_ok (k + 1)) (by rw [bl_len]; omega)))
      have bel_206 : Below w.heap.size w y205 := below_only bel_204 oq geB bel_204.size
      clear B_204 M_204 D_204 bel_204 oq
      clear rq
      refine ⟨⟨D_206, trivial⟩, ?_⟩
      refine wpAnyH_done (by kernel_rfl) ?_ _
      go_wp2_with fail
      try simp only [Act.put]
      go_roundw
      case rel => exact ⟨⟨k + 1, by omega, by go_num, B_206⟩, M_206, bel_206⟩
      case measure => simp [intOf]; omega
    · obtain rfl : k = 4 := by omega
      go_wp2_with fail
      go_ret
      exact ⟨⟨B, mb, rfl, ⟨hrow, hmap⟩, geB, gemb⟩, bel⟩
end Go.Proofs.YtpebadhknpohkaaDoor.Tr
