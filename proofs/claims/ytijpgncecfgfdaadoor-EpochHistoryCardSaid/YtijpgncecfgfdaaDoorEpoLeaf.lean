/-
  The contracts of what changes an epoch's data, and of what puts a block behind a pair (package epoch): a checkpoint that is moved, a later epoch's begin, one block more, a draw that counts. Over this seat's translation.
-/
import Derived.Test.YtijpgncecfgfdaaDoorEpoMem
import Derived.Test.YtijpgncecfgfdaaDoorSlotB
import Derived.Test.YtijpgncecfgfdaaDoorWant
import Derived.Test.YtijpgncecfgfdaaDoorMemAll
import Derived.Test.YtijpgncecfgfdaaDoorShaAll
import Derived.Test.YtijpgncecfgfdaaDoorTagAll
namespace Go.Proofs.YtijpgncecfgfdaaDoor.Ep
open Go.ChangeShapes Go.WideShapes Go.ChangeAt Go.RowKit Go.Proofs.YtijpgncecfgfdaaDoor.Mem Go.Proofs.YtijpgncecfgfdaaDoor.Bt Go.Proofs.YtijpgncecfgfdaaDoor.Sha Go.Proofs.YtijpgncecfgfdaaDoor.Tg
set_option linter.unusedVariables false
set_option linter.unusedSimpArgs false

theorem digest_lt (l : List Nat) : AllLt 256 (digest l) := by
  intro x hx
  unfold digest outOf at hx
  obtain ⟨y, _, hy⟩ := List.mem_flatMap.1 hx
  exact bytes4_lt y x hy
theorem tagD_lt (s : ByteArray) (l : List (List Nat)) : AllLt 256 (tagD s l) := by
  unfold tagD; split
  · exact digest_lt _
  · intro x hx; have := List.eq_of_mem_replicate hx; omega
/-- A seed, made of a seed and a draw. -/
def seedN (s x : List Nat) : List Nat := tagD ⟨#[115, 101, 101, 100]⟩ [s, x]
theorem seed_ok (s x : List Nat) : H32 (seedN s x) := ⟨tagD_len _ _, tagD_lt _ _⟩
/-- The data of a later epoch's begin; of one block more; with a draw that counts. -/
def turnD (d : Dat) (b : Blk) : Dat := ⟨b.led, d.seed, b.prev, zh, 1⟩
def moreD (d : Dat) : Dat := ⟨d.led, d.seed, d.start, d.lock, d.len + 1⟩
def lockD (d : Dat) (b : Blk) : Dat := ⟨d.led, seedN d.seed b.draw, d.start, b.prev, d.len⟩
theorem turn_ok {d : Dat} {b : Blk} (k : d.Ok) (j : b.Ok) : (turnD d b).Ok := ⟨j.led, k.seed, j.prev, zh_ok, (by decide : 1 < 4294967296)⟩
theorem more_ok {d : Dat} (k : d.Ok) (h : d.len + 1 < 4294967296) : (moreD d).Ok := ⟨k.led, k.seed, k.start, k.lock, h⟩
theorem lock_ok {d : Dat} {b : Blk} (k : d.Ok) (j : b.Ok) : (lockD d b).Ok := ⟨k.led, seed_ok _ _, k.start, j.prev, k.len⟩
theorem run_two (p q : Option Addr) (n m c e : Nat) (w : World) : (Instr.buildSlice 66 2 #[(0, .slice p n c), (1, .slice q m e)]).run Tryd.prog w = .ok (.slice (some ⟨w.heap.size, 0, none⟩) 2 2) (w.alloc (.cells #[.slice p n c, .slice q m e] 65)) := by kernel_rfl
theorem run_op_two {o : Oper} {a : Act} (x y : Operand) (ho : o.op = .buildSlice 66 2 #[(0, x), (1, y)]) (p q : Option Addr) (n m c e : Nat) (hx : a.eval x = .slice p n c) (hy : a.eval y = .slice q m e) (w : World) :
    (execOp a.eval o).run Tryd.prog w = .ok (.value (.slice (some ⟨w.heap.size, 0, none⟩) 2 2)) (w.alloc (.cells #[.slice p n c, .slice q m e] 65)) := by
  unfold execOp
  simp only [ho, List.map_toArray, List.map_cons, List.map_nil, hx, hy, Sem.run_bind, run_two, Result.andThen_ok, Sem.run_pure]
theorem came_at {w : World} {b o : Nat} {h : List Nat} (hr : w.rangeAt b o (u8s h)) (k : H32 h) : Came w (some ⟨b, o, none⟩) 32 h :=
  ⟨by have := k.len; omega, fun e => (by cases e), fun _ => ⟨b, o, rfl, hr⟩, k.lt, by unfold maxLen; omega⟩
/-- A row of two digests' bytes. -/
theorem parts_hh {w : World} {b : Nat} {p q : Option Addr} {h g : List Nat} (hr : Row w b 65 [.slice p 32 32, .slice q 32 32]) (hc : Came w p 32 h) (hd : Came w q 32 g) (k : H32 h) (j : H32 g) : Parts w (some ⟨b, 0, none⟩) [h, g] :=
  ⟨fun _ => ⟨b, 0, rfl, hr.lt, fun i hi => by
    have hi' : i < 2 := hi
    obtain rfl | rfl : i = 0 ∨ i = 1 := by omega
    · exact ⟨p, 32, by show _ = some (Value.slice p h.length 32); rw [k.len]; exact hr.cell rfl, hc⟩
    · exact ⟨q, 32, by show _ = some (Value.slice q g.length 32); rw [j.len]; exact hr.cell rfl, hd⟩⟩⟩
theorem add1_fits (n : Nat) (w : World) (h : n + 1 < 4294967296) :
    Calls Tryd.prog 31 #[.int .u32 (n : Int), .int .u32 1] w fun e w' => e = .returned (.tuple #[.int .u32 ((n + 1 : Nat) : Int), .bool true]) ∧ Below w.heap.size w w' := by
  have hi : Num.in32 ((n : Int) + 1) = true := by unfold Num.in32; simp; omega
  have hk : Num.keep32 ((n : Int) + 1) = ((n + 1 : Nat) : Int) := by unfold Num.keep32; rw [if_pos hi]; omega
  have h := Slot.add32B_any (n : Int) 1 w (by omega) (by omega) (by omega) (by omega)
  rw [hi, hk] at h
  exact h
theorem add1_over (w : World) :
    Calls Tryd.prog 31 #[.int .u32 4294967295, .int .u32 1] w fun e w' => e = .returned (.tuple #[.int .u32 0, .bool false]) ∧ Below w.heap.size w w' := by
  have hi : Num.in32 (4294967295 + 1) = false := by unfold Num.in32; simp
  have h := Slot.add32B_any 4294967295 1 w (by omega) (by omega) (by omega) (by omega)
  rw [hi, Slot.keep32_no0 hi] at h
  exact h
set_option maxHeartbeats 4000000 in
set_option maxRecDepth 100000 in
theorem point_any (M off : Nat) (u : TypeId) (cs : List Value) (c x : List Nat) (w : World) (hr : Row w M u cs) (hc : Has cs off (u8s c)) (kc : H32 c) (kx : H32 x) :
    Calls Tryd.prog 30 #[.pointer (some ⟨M, off, none⟩), .agg (u8s x).toArray] w fun e w' => e = .returned (.tuple #[]) ∧ Row w' M u (lay cs off (u8s x)) ∧ Only M w w' := by
  have HC := Lib.hid hc; have KC := Lib.hid kc; have KX := Lib.hid kx
  have HSM := Lib.hid (fun h : c = x => by subst h; exact hc.same : c = x → lay cs off (u8s x) = cs)
  have HLE := Lib.hid (show off + (u8s x).length ≤ cs.length by have := hc.le; rw [h_len kc] at this; rw [h_len kx]; exact this)
  clear hc kc kx
  obtain ⟨bb, hbb⟩ : ∃ bb, bb = !decide (c = x) := ⟨_, rfl⟩
  have HB := Lib.hid hbb
  clear hbb
  go_enter Tryd.func30, Tryd.ntmps30
  go_wp2_with (first
    | ((with_reducible refine at_slot 3 ?_); (refine arm_box (o := ⟨some 3, _, _, _, _, _⟩) rfl _ _ rfl (u8s x) rfl ?_); intro X w1 Xe hw1 nw1))
  have rM1 := hr.old nw1.below
  have belM : Only M w w1 := Only.of_below M nw1.below
  clear nw1 Xe
  refine wp_region_held (S := fun w' => Row w' M u cs ∧ Row w' X 23 (u8s x)) (by kernel_rfl) ?_
  change wpAnyH _ _ _ _ _ _ _ _ w1.drew
  have rMz : Row w1.drew M u cs := rM1
  have rXz : Row w1.drew X 23 (u8s x) := hw1
  have oz : Only M w w1.drew := belM.trans (Only.drewN M w1 1)
  generalize w1.drew = wz at rMz rXz oz ⊢
  have hS : (fun w' => Row w' M u cs ∧ Row w' X 23 (u8s x)) wz := ⟨rMz, rXz⟩
  refine h_take 0 (.pointer (some ⟨M, off, none⟩)) rfl 4 rfl (by kernel_rfl) (by kernel_rfl) (by kernel_rfl) (by kernel_rfl) (fun _ _ _ h => h) (fun w' _ => by kernel_rfl) hS ?_
  simp only [Act.put, List.setIfInBounds_toArray, List.set_cons_zero, List.set_cons_succ]
  refine h_take 1 (.pointer (some ⟨M, off, none⟩)) rfl 5 rfl (by kernel_rfl) (by kernel_rfl) (by kernel_rfl) (by kernel_rfl) (fun _ _ _ h => h) (fun w' _ => by kernel_rfl) hS ?_
  simp only [Act.put, List.setIfInBounds_toArray, List.set_cons_zero, List.set_cons_succ]
  refine h_take 2 (.agg (u8s c).toArray) rfl 6 rfl (by kernel_rfl) (by kernel_rfl) (by kernel_rfl) (by kernel_rfl) (fun _ _ _ h => h) (fun w' h => run_op_load _ _ rfl M off rfl (u8s c) (HC.out.range h.1) (szH KC.out)) hS ?_
  simp only [Act.put, List.setIfInBounds_toArray, List.set_cons_zero, List.set_cons_succ]
  refine h_take 3 (.agg (u8s x).toArray) rfl 7 rfl (by kernel_rfl) (by kernel_rfl) (by kernel_rfl) (by kernel_rfl) (fun _ _ _ h => h) (fun w' h => run_op_load _ _ rfl X 0 rfl (u8s x) ((Has.refl _).range h.2) (szH KX.out)) hS ?_
  simp only [Act.put, List.setIfInBounds_toArray, List.set_cons_zero, List.set_cons_succ]
  refine h_take 4 (.bool bb) rfl 8 rfl (by kernel_rfl) (by kernel_rfl) (by kernel_rfl) (by kernel_rfl) (fun _ _ _ h => h) (fun w' _ => by rw [HB.out]; exact run_op_neq2 _ _ _ rfl c x KC.out.len KX.out.len rfl rfl w') hS ?_
  simp only [Act.put, List.setIfInBounds_toArray, List.set_cons_zero, List.set_cons_succ]
  refine wpAnyH_done (by kernel_rfl) ?_ _
  clear hS
  cases bb
  · have e : c = x := by have := HB.out; simpa using this.symm
    go_wp2_with fail
    go_end0
    exact ⟨rfl, by rw [HSM.out e]; exact rMz, oz⟩
  · clear HB
    go_wp2_with (first
      | ((with_reducible refine at_slot 10 ?_); (refine arm_load (o := ⟨some 10, _, _, _, _, _⟩) rfl _ _ rfl X 0 rfl (u8s x) ((Has.refl _).range rXz) (szH KX.out) ?_))
      | ((with_reducible refine arm_store (o := ⟨none, _, _, _, _, _⟩) rfl _ _ _ rfl M off rfl (u8s x) rfl _ _ (rMz) HLE.out (u8s_one _) (szH KX.out) ?_); intro w3 hw3 ow3 sw3))
    go_end0
    exact ⟨rfl, hw3, oz.trans ow3⟩
set_option maxHeartbeats 4000000 in
set_option maxRecDepth 100000 in
theorem begin_any (M : Nat) (u : TypeId) (d : Dat) (r : List Value) (b : Blk) (w : World) (hr : Row w M u (dcs d ++ r)) (k : d.Ok) (j : b.Ok) :
    Calls Tryd.prog 23 #[.pointer (some ⟨M, 0, none⟩), .agg (bcs b).toArray] w fun e w' => e = .returned (.tuple #[]) ∧ Row w' M u (dcs (turnD d b) ++ r) ∧ Only M w w' := by
  obtain ⟨d1, hd1⟩ : ∃ d1 : Dat, d1 = ⟨b.led, d.seed, d.start, d.lock, d.len⟩ := ⟨_, rfl⟩
  obtain ⟨d2, hd2⟩ : ∃ d2 : Dat, d2 = ⟨b.led, d.seed, d.start, d.lock, 1⟩ := ⟨_, rfl⟩
  obtain ⟨d3, hd3⟩ : ∃ d3 : Dat, d3 = ⟨b.led, d.seed, b.prev, d.lock, 1⟩ := ⟨_, rfl⟩
  have K := Lib.hid k; have J := Lib.hid j
  have K1 := Lib.hid (show d1.Ok by rw [hd1]; exact ⟨j.led, k.seed, k.start, k.lock, k.len⟩)
  have K2 := Lib.hid (show d2.Ok by rw [hd2]; exact ⟨j.led, k.seed, k.start, k.lock, (by decide : 1 < 4294967296)⟩)
  have K3 := Lib.hid (show d3.Ok by rw [hd3]; exact ⟨j.led, k.seed, j.prev, k.lock, (by decide : 1 < 4294967296)⟩)
  have L1 := Lib.hid (show lay (dcs d ++ r) 0 (u8s b.led) = dcs d1 ++ r by rw [hd1]; exact lay_led k j.led r)
  have L2 := Lib.hid (show (dcs d1 ++ r).set 128 (.int .u32 1) = dcs d2 ++ r by rw [hd2]; subst hd1; exact set_len K1.out 1 r)
  have L3 := Lib.hid (show lay (dcs d2 ++ r) 64 (u8s b.prev) = dcs d3 ++ r by rw [hd3]; subst hd2; exact lay_start K2.out j.prev r)
  have L4 := Lib.hid (show lay (dcs d3 ++ r) 96 (u8s zh) = dcs (turnD d b) ++ r by subst hd3; exact lay_lock K3.out zh_ok r)
  have A2 := Lib.hid (show Has (dcs d2 ++ r) 64 (u8s d2.start) from Nat.zero_add 64 ▸ d_start K2.out (Has.refl (dcs d2 ++ r)).left)
  have A3 := Lib.hid (show Has (dcs d3 ++ r) 96 (u8s d3.lock) from Nat.zero_add 96 ▸ d_lock K3.out (Has.refl (dcs d3 ++ r)).left)
  have G0 := Lib.hid (show 0 + (u8s b.led).length ≤ (dcs d ++ r).length by rw [h_len j.led, List.length_append, dcs_len k]; omega)
  have G1 := Lib.hid (show 128 < (dcs d1 ++ r).length by rw [List.length_append, dcs_len K1.out]; omega)
  clear hd1 hd2 hd3 k j
  go_enter Tryd.func23, Tryd.ntmps23
  go_wp2_with (first
    | ((with_reducible refine at_slot 3 ?_); (refine arm_box (o := ⟨some 3, _, _, _, _, _⟩) rfl _ _ rfl (bcs b) rfl ?_); intro X w1 Xe hw1 nw1)
    | ((with_reducible refine at_slot 7 ?_); (refine arm_load (o := ⟨some 7, _, _, _, _, _⟩) rfl _ _ rfl X 34 rfl (u8s b.led) ((show Has (bcs b) 34 (u8s b.led) from b_led J.out (Has.refl (bcs b))).range hw1) (szH J.out.led) ?_))
    | ((with_reducible refine arm_store (o := ⟨none, _, _, _, _, _⟩) rfl _ _ _ rfl M 0 rfl (u8s b.led) rfl _ _ (hr.old nw1.below) G0.out (u8s_one _) (szH J.out.led) ?_); intro w2 hw2 ow2 sw2)
    | ((with_reducible refine arm_store1 (o := ⟨none, _, _, _, _, _⟩) rfl _ _ _ rfl M 128 rfl .u32 1 rfl (by kernel_rfl) _ _ (hw2.congr L1.out) G1.out ?_); intro w3 hw3 ow3 sw3))
  have rM3 := hw3.congr L2.out
  have e1 := Xe.out
  have hXM : X ≠ M := by have := hr.lt; omega
  have rX3 := (hw1.only ow2 hXM).only ow3 hXM
  have o3 : Only M w w3 := ((Only.of_below M nw1.below).trans ow2).trans ow3
  clear e1 Xe hw1 nw1 hw2 ow2 sw2 hw3 ow3 sw3 G0 G1 L1 L2 hr
  refine wp_region_held (S := fun w' => Row w' X 30 (bcs b)) (by kernel_rfl) ?_
  change wpAnyH _ _ _ _ _ _ _ _ w3.drew
  have rMz : Row w3.drew M u (dcs d2 ++ r) := rM3
  have rXz : Row w3.drew X 30 (bcs b) := rX3
  have oz : Only M w w3.drew := o3.trans (Only.drewN M w3 1)
  generalize w3.drew = wz at rMz rXz oz ⊢
  have hS : (fun w' => Row w' X 30 (bcs b)) wz := rXz
  refine h_take 0 (.pointer (some ⟨M, 0, none⟩)) rfl 12 rfl (by kernel_rfl) (by kernel_rfl) (by kernel_rfl) (by kernel_rfl) (fun _ _ _ h => h) (fun w' _ => by kernel_rfl) hS ?_
  simp only [Act.put, List.setIfInBounds_toArray, List.set_cons_zero, List.set_cons_succ]
  refine h_take 1 (.pointer (some ⟨M, 0, none⟩)) rfl 13 rfl (by kernel_rfl) (by kernel_rfl) (by kernel_rfl) (by kernel_rfl) (fun _ _ _ h => h) (fun w' _ => by kernel_rfl) hS ?_
  simp only [Act.put, List.setIfInBounds_toArray, List.set_cons_zero, List.set_cons_succ]
  refine h_take 2 (.pointer (some ⟨M, 64, none⟩)) rfl 14 rfl (by kernel_rfl) (by kernel_rfl) (by kernel_rfl) (by kernel_rfl) (fun _ _ _ h => h) (fun w' _ => by kernel_rfl) hS ?_
  simp only [Act.put, List.setIfInBounds_toArray, List.set_cons_zero, List.set_cons_succ]
  refine h_take 3 (.pointer (some ⟨X, 2, none⟩)) rfl 15 rfl (by kernel_rfl) (by kernel_rfl) (by kernel_rfl) (by kernel_rfl) (fun _ _ _ h => h) (fun w' _ => by kernel_rfl) hS ?_
  simp only [Act.put, List.setIfInBounds_toArray, List.set_cons_zero, List.set_cons_succ]
  refine h_take 4 (.agg (u8s b.prev).toArray) rfl 16 rfl (by kernel_rfl) (by kernel_rfl) (by kernel_rfl) (by kernel_rfl) (fun _ _ _ h => h) (fun w' h => run_op_load _ _ rfl X 2 rfl (u8s b.prev) ((show Has (bcs b) 2 (u8s b.prev) from b_prev (Has.refl (bcs b))).range h) (szH J.out.prev)) hS ?_
  simp only [Act.put, List.setIfInBounds_toArray, List.set_cons_zero, List.set_cons_succ]
  refine h_one (i := 5) (by kernel_rfl) (o_call rfl 17 rfl (by kernel_rfl) (run_op_call 30 _ _ rfl #[.pointer (some ⟨M, 64, none⟩), .agg (u8s b.prev).toArray] (by simp only [List.map_toArray, List.map_cons, List.map_nil]; rfl) Tryd.func30 (by kernel_rfl) (by kernel_rfl) _) (point_any M 64 u _ _ b.prev _ rMz A2.out K2.out.start J.out.prev) ?_)
  rintro e y ⟨rfl, hRy, hOy⟩
  refine ⟨_, rfl, rXz.only hOy hXM, ?_⟩
  simp only [Act.put, List.setIfInBounds_toArray, List.set_cons_zero, List.set_cons_succ]
  refine wpAnyH_done (by kernel_rfl) ?_ _
  clear hS
  have oy := oz.trans hOy
  have rMy := hRy.congr L3.out
  clear hOy hRy rMz oz rXz
  go_wp2_with (first
    | ((with_reducible refine at_slot 21 ?_); (refine arm_build (o := ⟨some 21, _, _, _, _, _⟩) rfl _ _ rfl (u8s zh) (by kernel_rfl) ?_)))
  refine (point_any M 96 u _ _ zh _ rMy A3.out K3.out.lock zh_ok).mono ?_
  rintro e yf ⟨rfl, hRf, hOf⟩
  go_wp2_with fail
  go_end0
  exact ⟨rfl, hRf.congr L4.out, oy.trans hOf⟩
set_option maxHeartbeats 4000000 in
set_option maxRecDepth 100000 in
theorem lengthen_any (M : Nat) (u : TypeId) (d : Dat) (r : List Value) (w : World) (hr : Row w M u (dcs d ++ r)) (k : d.Ok) (h : d.len + 1 < 4294967296) :
    Calls Tryd.prog 24 #[.pointer (some ⟨M, 0, none⟩)] w fun e w' => e = .returned (.int .i64 0) ∧ Row w' M u (dcs (moreD d) ++ r) ∧ Only M w w' := by
  have hcell : w.cell? ⟨M, 128, none⟩ = some (.int .u32 (d.len : Int)) := hr.cell (show Has (dcs d ++ r) 128 [num32 d.len] from Nat.zero_add 128 ▸ d_len k (Has.refl (dcs d ++ r)).left).get
  have CA := fun w0 => Lib.hid (add1_fits d.len w0 h)
  have L1 := Lib.hid (show (dcs d ++ r).set 128 (.int .u32 ((d.len + 1 : Nat) : Int)) = dcs (moreD d) ++ r from set_len k (d.len + 1) r)
  have G1 := Lib.hid (show 128 < (dcs d ++ r).length by rw [List.length_append, dcs_len k]; omega)
  generalize d.len + 1 = m at CA L1 h
  generalize d.len = n at hcell CA
  clear k
  go_enter Tryd.func24, Tryd.ntmps24
  go_wp2_with fail
  refine (CA _).out.mono ?_
  rintro e w1 ⟨rfl, hB1⟩
  have rM1 := hr.old hB1
  have o1 : Only M w w1 := Only.of_below M hB1
  clear hB1
  go_wp2_with (first
    | ((with_reducible refine arm_store1 (o := ⟨none, _, _, _, _, _⟩) rfl _ _ _ rfl M 128 rfl .u32 (m : Int) rfl (by kernel_rfl) _ _ rM1 G1.out ?_); intro w3 hw3 ow3 sw3))
  go_ret
  exact ⟨rfl, hw3.congr L1.out, o1.trans ow3⟩
set_option maxHeartbeats 4000000 in
set_option maxRecDepth 100000 in
theorem lengthen_over (M : Nat) (u : TypeId) (d : Dat) (r : List Value) (w : World) (hr : Row w M u (dcs d ++ r)) (k : d.Ok) (h : d.len = 4294967295) :
    Calls Tryd.prog 24 #[.pointer (some ⟨M, 0, none⟩)] w fun e w' => e = .returned (.int .i64 5) ∧ Row w' M u (dcs d ++ r) ∧ Only M w w' := by
  have hcell : w.cell? ⟨M, 128, none⟩ = some (.int .u32 4294967295) := by
    have := hr.cell (show Has (dcs d ++ r) 128 [num32 d.len] from Nat.zero_add 128 ▸ d_len k (Has.refl (dcs d ++ r)).left).get
    rw [h] at this
    exact this
  clear k h
  go_enter Tryd.func24, Tryd.ntmps24
  go_wp2_with fail
  refine (add1_over _).mono ?_
  rintro e w1 ⟨rfl, hB1⟩
  go_wp2_with fail
  go_ret
  exact ⟨rfl, hr.old hB1, Only.of_below M hB1⟩
set_option maxHeartbeats 4000000 in
set_option maxRecDepth 100000 in
theorem lock_any (M : Nat) (u : TypeId) (d : Dat) (r : List Value) (b : Blk) (w : World) (hr : Row w M u (dcs d ++ r)) (k : d.Ok) (j : b.Ok) (hk : w.rangeAt 1 0 (u32s ks)) (hM : M ≠ 1) :
    Calls Tryd.prog 26 #[.pointer (some ⟨M, 0, none⟩), .agg (bcs b).toArray] w fun e w' => e = .returned (.tuple #[]) ∧ Row w' M u (dcs (lockD d b) ++ r) ∧ Only M w w' := by
  obtain ⟨sd, hsd⟩ : ∃ sd, sd = seedN d.seed b.draw := ⟨_, rfl⟩
  obtain ⟨d1, hd1⟩ : ∃ d1 : Dat, d1 = ⟨d.led, sd, d.start, d.lock, d.len⟩ := ⟨_, rfl⟩
  have HSD := Lib.hid hsd
  have KS := Lib.hid (show H32 sd by rw [hsd]; exact seed_ok _ _)
  have K := Lib.hid k; have J := Lib.hid j
  have K1 := Lib.hid (show d1.Ok by rw [hd1]; exact ⟨k.led, KS.out, k.start, k.lock, k.len⟩)
  have L1 := Lib.hid (show lay (dcs d ++ r) 32 (u8s sd) = dcs d1 ++ r by rw [hd1]; exact lay_seed k KS.out r)
  have L2 := Lib.hid (show lay (dcs d1 ++ r) 96 (u8s b.prev) = dcs (lockD d b) ++ r by subst hd1; subst hsd; exact lay_lock K1.out j.prev r)
  have A0 := Lib.hid (show Has (dcs d ++ r) 32 (u8s d.seed) from Nat.zero_add 32 ▸ d_seed k (Has.refl (dcs d ++ r)).left)
  have A1 := Lib.hid (show Has (dcs d1 ++ r) 96 (u8s d1.lock) from Nat.zero_add 96 ▸ d_lock K1.out (Has.refl (dcs d1 ++ r)).left)
  have G0 := Lib.hid (show 32 + (u8s sd).length ≤ (dcs d ++ r).length by rw [h_len KS.out, List.length_append, dcs_len k]; omega)
  have HK := Lib.hid hk
  have hk1 : 1 < w.heap.size := range_lt hk (by simp [u32s, ks])
  clear hd1 hsd k j hk
  go_enter Tryd.func26, Tryd.ntmps26
  go_wp2_with (first
    | ((with_reducible refine at_slot 3 ?_); (refine arm_box (o := ⟨some 3, _, _, _, _, _⟩) rfl _ _ rfl (bcs b) rfl ?_); intro X w1 Xe hw1 nw1))
  have e1 := Xe.out
  have hXM : X ≠ M := by have := hr.lt; omega
  have rM1 := hr.old nw1.below
  have o1 : Only M w w1 := Only.of_below M nw1.below
  clear e1 Xe nw1 hr
  refine wp_region_held (S := fun w' => True) (by kernel_rfl) ?_
  change wpAnyH _ _ _ _ _ _ _ _ w1.drew
  have rMz : Row w1.drew M u (dcs d ++ r) := rM1
  have rXz : Row w1.drew X 30 (bcs b) := hw1
  have oz : Only M w w1.drew := o1.trans (Only.drewN M w1 1)
  generalize w1.drew = wz at rMz rXz oz ⊢
  have hS : (fun w' => True) wz := trivial
  refine h_take 0 (.pointer (some ⟨M, 0, none⟩)) rfl 4 rfl (by kernel_rfl) (by kernel_rfl) (by kernel_rfl) (by kernel_rfl) (fun _ _ _ h => h) (fun w' _ => by kernel_rfl) hS ?_
  simp only [Act.put, List.setIfInBounds_toArray, List.set_cons_zero, List.set_cons_succ]
  refine h_take 1 (.pointer (some ⟨M, 0, none⟩)) rfl 5 rfl (by kernel_rfl) (by kernel_rfl) (by kernel_rfl) (by kernel_rfl) (fun _ _ _ h => h) (fun w' _ => by kernel_rfl) hS ?_
  simp only [Act.put, List.setIfInBounds_toArray, List.set_cons_zero, List.set_cons_succ]
  refine h_take 2 (.pointer (some ⟨M, 0, none⟩)) rfl 6 rfl (by kernel_rfl) (by kernel_rfl) (by kernel_rfl) (by kernel_rfl) (fun _ _ _ h => h) (fun w' _ => by kernel_rfl) hS ?_
  simp only [Act.put, List.setIfInBounds_toArray, List.set_cons_zero, List.set_cons_succ]
  refine h_take 3 (.pointer (some ⟨M, 32, none⟩)) rfl 7 rfl (by kernel_rfl) (by kernel_rfl) (by kernel_rfl) (by kernel_rfl) (fun _ _ _ h => h) (fun w' _ => by kernel_rfl) hS ?_
  simp only [Act.put, List.setIfInBounds_toArray, List.set_cons_zero, List.set_cons_succ]
  refine h_take 4 (.slice (some ⟨M, 32, none⟩) 32 32) rfl 8 rfl (by kernel_rfl) (by kernel_rfl) (by kernel_rfl) (by kernel_rfl) (fun _ _ _ h => h) (fun w' _ => run_op_sliceAll _ _ rfl 32 5 (by kernel_rfl) (by kernel_rfl) M 32 rfl (by omega) w') hS ?_
  simp only [Act.put, List.setIfInBounds_toArray, List.set_cons_zero, List.set_cons_succ]
  refine h_take 5 (.pointer (some ⟨X, 66, none⟩)) rfl 9 rfl (by kernel_rfl) (by kernel_rfl) (by kernel_rfl) (by kernel_rfl) (fun _ _ _ h => h) (fun w' _ => by kernel_rfl) hS ?_
  simp only [Act.put, List.setIfInBounds_toArray, List.set_cons_zero, List.set_cons_succ]
  refine h_take 6 (.slice (some ⟨X, 66, none⟩) 32 32) rfl 10 rfl (by kernel_rfl) (by kernel_rfl) (by kernel_rfl) (by kernel_rfl) (fun _ _ _ h => h) (fun w' _ => run_op_sliceAll _ _ rfl 32 5 (by kernel_rfl) (by kernel_rfl) X 66 rfl (by omega) w') hS ?_
  simp only [Act.put, List.setIfInBounds_toArray, List.set_cons_zero, List.set_cons_succ]
  refine h_one (i := 7) (by kernel_rfl) (o_value _ rfl 11 rfl (by kernel_rfl) (run_op_two _ _ rfl (some ⟨M, 32, none⟩) (some ⟨X, 66, none⟩) 32 32 32 32 rfl rfl _) ?_)
  have hN := new_alloc wz (.cells #[.slice (some ⟨M, 32, none⟩) 32 32, .slice (some ⟨X, 66, none⟩) 32 32] 65)
  have rP : Row (wz.alloc (.cells #[.slice (some ⟨M, 32, none⟩) 32 32, .slice (some ⟨X, 66, none⟩) 32 32] 65)) wz.heap.size 65 [.slice (some ⟨M, 32, none⟩) 32 32, .slice (some ⟨X, 66, none⟩) 32 32] := heap_alloc_new _ _
  generalize wz.alloc (.cells #[.slice (some ⟨M, 32, none⟩) 32 32, .slice (some ⟨X, 66, none⟩) 32 32] 65) = y1 at hN rP ⊢
  have rMy := rMz.old hN.below; have rXy := rXz.old hN.below
  have oy : Only M w y1 := oz.trans (Only.of_below M hN.below)
  have hpt : Parts y1 (some ⟨wz.heap.size, 0, none⟩) [d.seed, b.draw] := parts_hh rP (came_at (A0.out.range rMy) K.out.seed) (came_at ((show Has (bcs b) 66 (u8s b.draw) from b_draw J.out (Has.refl (bcs b))).range rXy) J.out.draw) K.out.seed J.out.draw
  refine ⟨trivial, ?_⟩
  simp only [Act.put, List.setIfInBounds_toArray, List.set_cons_zero, List.set_cons_succ]
  clear hN rMz rXz oz rP
  generalize wz.heap.size = P at hpt ⊢
  refine h_one (i := 8) (by kernel_rfl) (o_call rfl 12 rfl (by kernel_rfl) (run_op_call 33 _ _ rfl #[.string ⟨#[115, 101, 101, 100]⟩, .slice (some ⟨P, 0, none⟩) 2 2] (by simp only [List.map_toArray, List.map_cons, List.map_nil]; rfl) Tryd.func33 (by kernel_rfl) (by kernel_rfl) _) (tagOf_any ⟨#[115, 101, 101, 100]⟩ [d.seed, b.draw] (some ⟨P, 0, none⟩) 2 y1 (by simp [total, K.out.seed.len, J.out.draw.len]) hpt (range_block HK.out (oy.block _ hk1 (Ne.symm hM)))) ?_)
  rw [show tagD ⟨#[115, 101, 101, 100]⟩ [d.seed, b.draw] = sd from HSD.out.symm]
  rintro e y2 ⟨rfl, hB2⟩
  have rMy2 := rMy.old hB2; have rXy2 := rXy.old hB2
  have oy2 : Only M w y2 := oy.trans (Only.of_below M hB2)
  clear hB2 hpt rMy rXy oy
  refine ⟨_, rfl, trivial, ?_⟩
  simp only [Act.put, List.setIfInBounds_toArray, List.set_cons_zero, List.set_cons_succ]
  refine h_take 9 (.pointer (some ⟨M, 0, none⟩)) rfl 13 rfl (by kernel_rfl) (by kernel_rfl) (by kernel_rfl) (by kernel_rfl) (fun _ _ _ h => h) (fun w' _ => by kernel_rfl) trivial ?_
  simp only [Act.put, List.setIfInBounds_toArray, List.set_cons_zero, List.set_cons_succ]
  refine h_take 10 (.pointer (some ⟨M, 32, none⟩)) rfl 14 rfl (by kernel_rfl) (by kernel_rfl) (by kernel_rfl) (by kernel_rfl) (fun _ _ _ h => h) (fun w' _ => by kernel_rfl) trivial ?_
  simp only [Act.put, List.setIfInBounds_toArray, List.set_cons_zero, List.set_cons_succ]
  refine h_one (i := 11) (by kernel_rfl) (o_skip rfl rfl (by kernel_rfl) (run_op_store _ _ _ rfl M 32 rfl (u8s sd) rfl _ _ rMy2 G0.out (u8s_one _) (szH KS.out)) ?_)
  have rMf := row_setRow rMy2 (lay (dcs d ++ r) 32 (u8s sd))
  have oMf := Only.setRow M y2 (lay (dcs d ++ r) 32 (u8s sd)).toArray
  generalize y2.setRow M (lay (dcs d ++ r) 32 (u8s sd)).toArray = y3 at rMf oMf ⊢
  refine ⟨trivial, ?_⟩
  have rM3 := rMf.congr L1.out; have rX3 := rXy2.only oMf hXM; have o3 := oy2.trans oMf
  clear rMf oMf rMy2 rXy2 oy2 L1 HSD
  refine wpAnyH_done (by kernel_rfl) ?_ _
  go_wp2_with fail
  refine wp_region_held (S := fun w' => Row w' X 30 (bcs b)) (by kernel_rfl) ?_
  change wpAnyH _ _ _ _ _ _ _ _ y3.drew
  have rMz : Row y3.drew M u (dcs d1 ++ r) := rM3
  have rXz : Row y3.drew X 30 (bcs b) := rX3
  have oz : Only M w y3.drew := o3.trans (Only.drewN M y3 1)
  generalize y3.drew = wz at rMz rXz oz ⊢
  have hS : (fun w' => Row w' X 30 (bcs b)) wz := rXz
  refine h_take 0 (.pointer (some ⟨M, 0, none⟩)) rfl 15 rfl (by kernel_rfl) (by kernel_rfl) (by kernel_rfl) (by kernel_rfl) (fun _ _ _ h => h) (fun w' _ => by kernel_rfl) hS ?_
  simp only [Act.put, List.setIfInBounds_toArray, List.set_cons_zero, List.set_cons_succ]
  refine h_take 1 (.pointer (some ⟨M, 0, none⟩)) rfl 16 rfl (by kernel_rfl) (by kernel_rfl) (by kernel_rfl) (by kernel_rfl) (fun _ _ _ h => h) (fun w' _ => by kernel_rfl) hS ?_
  simp only [Act.put, List.setIfInBounds_toArray, List.set_cons_zero, List.set_cons_succ]
  refine h_take 2 (.pointer (some ⟨M, 96, none⟩)) rfl 17 rfl (by kernel_rfl) (by kernel_rfl) (by kernel_rfl) (by kernel_rfl) (fun _ _ _ h => h) (fun w' _ => by kernel_rfl) hS ?_
  simp only [Act.put, List.setIfInBounds_toArray, List.set_cons_zero, List.set_cons_succ]
  refine h_take 3 (.pointer (some ⟨X, 2, none⟩)) rfl 18 rfl (by kernel_rfl) (by kernel_rfl) (by kernel_rfl) (by kernel_rfl) (fun _ _ _ h => h) (fun w' _ => by kernel_rfl) hS ?_
  simp only [Act.put, List.setIfInBounds_toArray, List.set_cons_zero, List.set_cons_succ]
  refine h_take 4 (.agg (u8s b.prev).toArray) rfl 19 rfl (by kernel_rfl) (by kernel_rfl) (by kernel_rfl) (by kernel_rfl) (fun _ _ _ h => h) (fun w' h => run_op_load _ _ rfl X 2 rfl (u8s b.prev) ((show Has (bcs b) 2 (u8s b.prev) from b_prev (Has.refl (bcs b))).range h) (szH J.out.prev)) hS ?_
  simp only [Act.put, List.setIfInBounds_toArray, List.set_cons_zero, List.set_cons_succ]
  refine h_one (i := 5) (by kernel_rfl) (o_call rfl 20 rfl (by kernel_rfl) (run_op_call 30 _ _ rfl #[.pointer (some ⟨M, 96, none⟩), .agg (u8s b.prev).toArray] (by simp only [List.map_toArray, List.map_cons, List.map_nil]; rfl) Tryd.func30 (by kernel_rfl) (by kernel_rfl) _) (point_any M 96 u _ _ b.prev _ rMz A1.out K1.out.lock J.out.prev) ?_)
  rintro e y ⟨rfl, hRy, hOy⟩
  refine ⟨_, rfl, rXz.only hOy hXM, ?_⟩
  simp only [Act.put, List.setIfInBounds_toArray, List.set_cons_zero, List.set_cons_succ]
  refine wpAnyH_done (by kernel_rfl) ?_ _
  clear hS
  go_wp2_with fail
  go_end0
  exact ⟨rfl, hRy.congr L2.out, oz.trans hOy⟩
end Go.Proofs.YtijpgncecfgfdaaDoor.Ep
