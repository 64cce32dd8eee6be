/-
  The contracts of package tree's empty and node. Over this seat's translation.
-/
import Derived.Test.YtpebadhknpohkaaDoorTreLeaf
import Derived.Test.YtpebadhknpohkaaDoorCmp
import Derived.LoopTactic
namespace Go.Proofs.YtpebadhknpohkaaDoor.Tr
open Go.ChangeShapes Go.WideShapes Go.ChangeAt Go.RowKit Go.Proofs.YtpebadhknpohkaaDoor.Mem Go.Proofs.YtpebadhknpohkaaDoor.Bt Go.Proofs.YtpebadhknpohkaaDoor.Wi Go.Proofs.YtpebadhknpohkaaDoor.Sha Go.Proofs.YtpebadhknpohkaaDoor.Ac Go.Proofs.YtpebadhknpohkaaDoor.Im
open Go.Proofs.YtpebadhknpohkaaDoor.Tg (bytesOf bytesOf_length bytesOf_lt bytesOf_inj Rd Rd.below Parts parts_one arm_one tagD tagD_len tagOf_any refTag_any total)
open Go.Proofs.YtpebadhknpohkaaDoor.Ep (H32 zh zh_ok Has h_len szH zH fitH allH came_at)
set_option linter.unusedVariables false
set_option linter.unusedSimpArgs false

theorem run_op_shrI {P : Program} {o : Oper} {a : Act} (t t' : TypeId) (x y : Operand) (ho : o.op = .binOp .shr t x y t') (m h : Nat) (hx : a.eval x = .int .i64 (m : Int)) (hy : a.eval y = .int .i64 (h : Int)) (hm : m ≤ 9223372036854775807) (hh : h < 64) (w : World) :
    (execOp a.eval o).run P w = .ok (.value (.int .i64 ((m / 2 ^ h : Nat) : Int))) w := by
  have e := shift_shr .i64 .i64 (m : Int) (h : Int) (by omega) (by simp [IntKind.bits]; omega)
  have e2 : (m : Int) / 2 ^ ((h : Int)).toNat = ((m / 2 ^ h : Nat) : Int) := by simp
  unfold execOp
  simp [ho, hx, hy, eqGuard, binOp, e, e2]
theorem xor_one {q : Nat} (h : q < 16) : IntKind.i64.wrap ((BitVec.ofNat 64 q ^^^ 1#64).toNat : Int) = (sib q : Int) := by
  have : ∀ q : Fin 16, IntKind.i64.wrap ((BitVec.ofNat 64 q.1 ^^^ 1#64).toNat : Int) = (sib q.1 : Int) := by decide
  exact this ⟨q, h⟩
theorem run_op_xorI {P : Program} {o : Oper} {a : Act} (t t' : TypeId) (x y : Operand) (ho : o.op = .binOp .xor t x y t') (q : Nat) (hx : a.eval x = .int .i64 (q : Int)) (hy : a.eval y = .int .i64 1) (hq : q < 16) (w : World) :
    (execOp a.eval o).run P w = .ok (.value (.int .i64 (sib q : Int))) w := by
  have e := xor_one hq
  unfold execOp
  simp only [ho, hx, hy, eqGuard, binOp, Op.intArith, Op.intBits]
  simp [IntKind.bits, Op.intBits, Op.intArith]
  exact e
theorem path_fit {p k : Nat} (hp : p < 16) (hk : k < 4) : (sib (p / 2 ^ k) + 1) * 2 ^ k ≤ 16 := by
  have : ∀ p : Fin 16, ∀ k : Fin 4, (sib (p.1 / 2 ^ k.1) + 1) * 2 ^ k.1 ≤ 16 := by decide
  exact this ⟨p, hp⟩ ⟨k, hk⟩
structure EmptyPost (w : World) (t : Tree) (h i : Nat) (e : Ending) (w' : World) : Prop where
  ex : ∃ b : Bool, e = .returned (.bool b) ∧ (b = true → ∀ k, k / 2 ^ h = i → t k = none) ∧ (b = false → ∃ k a, t k = some a ∧ k / 2 ^ h = i)
  bel : Below w.heap.size w w'
structure EmRel (w : World) (B mb r : Nat) (t : Tree) (h i : Nat) (wr : World) : Prop where
  ex : ∃ cnt, Iter wr mb r VA t (fun k => k / 2 ^ h ≠ i) cnt
  bel : Below w.heap.size w wr
theorem run_op_sub64 {P : Program} {o : Oper} {a : Act} (t t' : TypeId) (x y : Operand) (ho : o.op = .binOp .sub t x y t') (m n r : Int) (hx : a.eval x = .int .i64 m) (hy : a.eval y = .int .i64 n) (hr : IntKind.i64.wrap (m - n) = r) (w : World) :
    (execOp a.eval o).run P w = .ok (.value (.int .i64 r)) w := by
  subst hr
  unfold execOp
  simp [ho, hx, hy, eqGuard, binOp, Op.intArith]
theorem run_op_mul64 {P : Program} {o : Oper} {a : Act} (t t' : TypeId) (x y : Operand) (ho : o.op = .binOp .mul t x y t') (m n r : Int) (hx : a.eval x = .int .i64 m) (hy : a.eval y = .int .i64 n) (hr : IntKind.i64.wrap (m * n) = r) (w : World) :
    (execOp a.eval o).run P w = .ok (.value (.int .i64 r)) w := by
  subst hr
  unfold execOp
  simp [ho, hx, hy, eqGuard, binOp, Op.intArith]
set_option maxHeartbeats 4000000 in
set_option maxRecDepth 100000 in
theorem empty_any (B mb : Nat) (t : Tree) (h i : Nat) (w : World) (ht : TrAt w B mb t) (hg : Good t) (hh : h < 64) :
    Calls Tryd.prog 33 #[.pointer (some ⟨B, 0, none⟩), .int .i64 (h : Int), .int .i64 (i : Int)] w (EmptyPost w t h i) := by
  have hc0 := ht.c0
  have HH := Lib.hid hh
  have HG := Lib.hid hg
  clear hh hg
  go_enter Tryd.func33, Tryd.ntmps33
  go_wp2_with (first
    | ((with_reducible refine at_slot 12 ?_); (refine arm_rangeI (o := ⟨some 12, _, _, _, _, _⟩) rfl _ _ rfl rfl ht.map und_map (fun k => k / 2 ^ h ≠ i) ?_); intro r v1 cnt re hit nr))
  have ger : w.heap.size ≤ r := by have := re.out; omega
  have h0 : EmRel w B mb r t h i v1 := ⟨⟨cnt, hit⟩, nr.below⟩
  clear hit nr re
  try simp only [Act.put]
  try go_frame
  go_loopw [7] (fun _ wr => EmRel w B mb r t h i wr) (fun _ wr => wr.rangeLeft mb r)
  case atStart => exact h0
  case round =>
    clear h0
    obtain ⟨⟨cnt, hit⟩, bel⟩ := hrel
    go_wp2_with (first
      | ((with_reducible refine at_slot 13 ?_); (refine arm_nextI (o := ⟨some 13, _, _, _, _, _⟩) rfl _ rfl rfl hit ?_ ?_)))
    · intro hdone
      go_wp2_with fail
      go_ret
      exact ⟨⟨true, rfl, fun _ k hk => by
        cases hc : t k with
        | none => rfl
        | some a => exact absurd hk (hdone k a hc), fun e => by cases e⟩, bel⟩
    · intro k u w1 hk hw hmore hm1 ho hs hen
      have hk16 := (HG.out k u hk).1
      have bel1 : Below w.heap.size w w1 := below_only bel ho ger bel.size
      by_cases hd : k / 2 ^ h = i
      · clear hmore
        go_wp2_with (first
          | ((with_reducible refine at_slot 19 ?_); (refine arm_want (.int .i64 ((k / 2 ^ h : Nat) : Int)) 19 rfl (by kernel_rfl) (run_op_shrI _ _ _ _ rfl k h rfl rfl (by omega) HH.out _) ?_))
          | ((with_reducible refine at_slot 21 ?_); (refine arm_want (.bool true) 21 rfl (by kernel_rfl) (cmp_eql _ _ .i64 (by kernel_rfl) _ _ rfl .i64 (((k / 2 ^ h : Nat) : Int)) ((i : Int)) rfl rfl true (decide_eq_true (by omega)) _) ?_)))
        go_ret
        exact ⟨⟨false, rfl, fun e => (by cases e), fun _ => ⟨k, u, hk, hd⟩⟩, bel1⟩
      · obtain ⟨cnt', hit', hlt⟩ := hmore hd
        go_wp2_with (first
          | ((with_reducible refine at_slot 19 ?_); (refine arm_want (.int .i64 ((k / 2 ^ h : Nat) : Int)) 19 rfl (by kernel_rfl) (run_op_shrI _ _ _ _ rfl k h rfl rfl (by omega) HH.out _) ?_))
          | ((with_reducible refine at_slot 21 ?_); (refine arm_want (.bool false) 21 rfl (by kernel_rfl) (cmp_eql _ _ .i64 (by kernel_rfl) _ _ rfl .i64 (((k / 2 ^ h : Nat) : Int)) ((i : Int)) rfl rfl false (decide_eq_false (by omega)) _) ?_)))
        try go_frame
        go_roundw
        case rel => exact ⟨⟨cnt', hit'⟩, bel1⟩
        case measure => rw [hit'.left_eq, hit.left_eq]; omega
set_option maxHeartbeats 4000000 in
set_option maxRecDepth 100000 in
theorem node_any (B mb : Nat) (t : Tree) (hg : Good t) : ∀ (h i : Nat) (w : World), h ≤ 4 → (i + 1) * 2 ^ h ≤ 16 → TrAt w B mb t → w.rangeAt 0 0 (u32s ks) →
    Calls Tryd.prog 28 #[.pointer (some ⟨B, 0, none⟩), .int .i64 (h : Int), .int .i64 (i : Int)] w fun e w' => e = .returned (.agg (u8s (nodeD t h i)).toArray) ∧ Below w.heap.size w w' := by
  intro h
  induction h with
  | zero =>
    intro i w h4 hi ht hk
    have hk1 : 0 < w.heap.size := range_lt hk (by simp [u32s, ks])
    have HKW : Hid (∀ w', Below w.heap.size w w' → w'.rangeAt 0 0 (u32s ks)) := Lib.hid fun w' hb => range_block hk (hb.block _ hk1)
    have CE := Lib.hid (fun w0 h0 => empty_any B mb t 0 i w0 h0 hg (by omega))
    have KD := Lib.hid (node_ok t 0 i)
    have HI : Hid (i < 16) := Lib.hid (by have : i + 1 ≤ 16 := by simpa using hi
                                          omega)
    have HB : Hid (∀ j, j ≤ 4 → ∀ w0, TrAt w0 B mb t → w0.rangeAt B (1 + 32 * j) (u8s (bareD j))) := Lib.hid fun j hj w0 h0 => h0.bdig hj
    have HG := Lib.hid hg
    have HZ : Hid (∀ (h i : Nat), (∀ k, k / 2 ^ h = i → t k = none) → nodeD t h i = bareD h) := Lib.hid fun h i hn => by rw [← bare_node h i]; exact node_congr h i fun j hj => hn j hj
    clear hk hk1 hg h4 hi
    obtain ⟨dd, hdd⟩ : ∃ dd, dd = nodeD t 0 i := ⟨_, rfl⟩
    have HD := Lib.hid hdd
    rw [← hdd] at KD ⊢
    clear hdd
    go_enter Tryd.func28, Tryd.ntmps28
    go_wp2_with (first
      | ((with_reducible refine at_slot 6 ?_); (refine arm_alloc (o := ⟨some 6, _, _, _, _, _⟩) rfl _ rfl (u8s zh) zH ?_); intro R v1 Re hv1 nv1))
    have hbv1 := nv1.below
    have rrv1 : Row v1 R 50 (u8s zh) := hv1
    have geR : w.heap.size ≤ R := by have := Re.out; omega
    clear hv1 nv1 Re
    have T_2 : TrAt v1 B mb (t) := ht.old hbv1
    have bel_2 : Below w.heap.size w v1 := hbv1
    clear ht hbv1
    go_wp2_with fail
    refine (CE.out _ T_2).mono ?_
    rintro e y3 ⟨⟨b, rfl, hb1, hb2⟩, hB⟩
    have T_4 : TrAt y3 B mb (t) := T_2.old hB
    have R_4 : Row y3 R 50 (u8s zh) := rrv1.old hB
    have bel_4 : Below w.heap.size w y3 := below_step bel_2 bel_2.size hB
    clear T_2 rrv1 bel_2 hB
    cases b
    · obtain ⟨j, a, hj, hji⟩ := hb2 rfl
      have hji : j = i := by simpa using hji
      subst hji
      have hga := HG.out j a hj
      have CH : Hid (∀ w0, w0.rangeAt 0 0 (u32s ks) → Calls Tryd.prog 22 #[.agg (acs a).toArray] w0 fun e w' => e = .returned (.tuple #[.agg (u8s dd).toArray, .int .i64 0]) ∧ Below w0.heap.size w0 w') := Lib.hid fun w0 h => (ahash_any a w0 hga.2.1 h).mono fun e w' h => ⟨by
        have h3 := h.ret
        have e1 : ansH a = dd := by rw [HD.out]; unfold ansH nodeD leafD; rw [if_pos hga.2.2, hj]
        have e2 : ansE a = 0 := by unfold ansE; rw [if_pos hga.2.2]
        rw [e1, e2] at h3; exact h3, h.bel⟩
      have HV : Hid ((if false then Value.tuple #[valO (VA za) VA (atI t (j : Int)), .bool (atI t (j : Int)).isSome] else valO (VA za) VA (atI t (j : Int))) = .agg (acs a).toArray) := Lib.hid (by rw [if_neg (by decide), atI_nat, hj]; rfl)
      have HP : Hid (Is64 (j : Int)) := Lib.hid (by have := hga.1; simp [Is64, Lit.wf, IntKind.min, IntKind.max, IntKind.signed, IntKind.bits]; omega)
      have hm := T_4.map
      have hc0 := T_4.c0
      clear hb1 hb2 hga hj
      go_wp2_with (first
        | ((with_reducible refine at_slot 27 ?_); (refine arm_lookupI (o := ⟨some 27, _, _, _, _, _⟩) rfl _ _ _ false rfl rfl (j : Int) rfl hm und_int und_map (VA za) (zero_acc _) HP.out (.agg (acs a).toArray) HV.out ?_)))
      clear hc0 hm
      refine (CH.out _ (HKW.out _ bel_4)).mono ?_
      rintro e y5 ⟨rfl, hB⟩
      have T_6 : TrAt y5 B mb (t) := T_4.old hB
      have R_6 : Row y5 R 50 (u8s zh) := R_4.old hB
      have bel_6 : Below w.heap.size w y5 := below_step bel_4 bel_4.size hB
      clear T_4 R_4 bel_4 hB
      go_wp2_with (first
        | ((with_reducible refine at_slot 7 ?_); (refine arm_alloc (o := ⟨some 7, _, _, _, _, _⟩) rfl _ rfl (u8s zh) zH ?_); intro L v7a Le hLa nL)
        | ((with_reducible refine arm_store (o := ⟨none, _, _, _, _, _⟩) rfl _ _ _ rfl L 0 rfl (u8s dd) rfl _ _ hLa (fitH KD.out) (u8s_one _) (szH KD.out) ?_); intro v7 hLb oL sL)
        | ((with_reducible refine at_slot 31 ?_); (refine arm_load (o := ⟨some 31, _, _, _, _, _⟩) rfl _ _ rfl L 0 rfl (u8s dd) ((Has.refl _).range (hLb.congr (allH KD.out))) (szH KD.out) ?_))
        | ((with_reducible refine arm_store (o := ⟨none, _, _, _, _, _⟩) rfl _ _ _ rfl R 0 rfl (u8s dd) rfl _ _ (((R_6.old nL.below).only oL (by have := Le.out; have := R_6.lt; omega))) (fitH KD.out) (u8s_one _) (szH KD.out) ?_); intro y9 hy9 oy9 sy9))
      have lL : y5.heap.size ≤ L := by have := Le.out; omega
      have bL : Below y5.heap.size y5 v7 := below_only nL.below oL lL nL.below.size
      have rrL : Row v7 L 50 (u8s dd) := hLb.congr (allH KD.out)
      have geL : w.heap.size ≤ L := Nat.le_trans bel_6.size lL
      clear hLa hLb nL oL sL Le lL
      have T_8 : TrAt v7 B mb (t) := T_6.old bL
      have R_8 : Row v7 R 50 (u8s zh) := R_6.old bL
      have bel_8 : Below w.heap.size w v7 := below_step bel_6 bel_6.size bL
      clear T_6 R_6 bel_6 bL
      exact bodyPost_ret (v := .agg (u8s dd).toArray) (result_row (p := 6) (ty := 50) (u := 50) (by kernel_rfl) _ _ R (u8s dd) rfl (hy9.congr (allH KD.out)) (szH KD.out)) rfl ⟨rfl, below_only bel_8 oy9 geR bel_8.size⟩
    · skip
      have hd : dd = bareD 0 := by rw [HD.out, HZ.out 0 i (hb1 rfl)]
      have KB := Lib.hid (bareD_ok 0)
      have hrg := HB.out 0 (by omega) _ T_4
      have HDB := Lib.hid hd
      clear hb1 hb2 hd
      go_wp2_with (first
        | ((with_reducible refine at_slot 17 ?_); (refine arm_want (.pointer (some ⟨B, 1 + 32 * 0, none⟩)) 17 rfl (by kernel_rfl) (run_op_arr _ _ _ rfl 5 50 32 (by kernel_rfl) (by kernel_rfl) B 1 rfl .i64 _ rfl 0 rfl (by omega) (1 + 32 * 0) (by omega) _) ?_))
        | ((with_reducible refine at_slot 18 ?_); (refine arm_load (o := ⟨some 18, _, _, _, _, _⟩) rfl _ _ rfl B (1 + 32 * 0) rfl (u8s (bareD 0)) (hrg) (szH KB.out) ?_))
        | ((with_reducible refine arm_store (o := ⟨none, _, _, _, _, _⟩) rfl _ _ _ rfl R 0 rfl (u8s (bareD 0)) rfl _ _ (R_4) (fitH KB.out) (u8s_one _) (szH KB.out) ?_); intro y9 hy9 oy9 sy9))
      exact bodyPost_ret (v := .agg (u8s (bareD 0)).toArray) (result_row (p := 6) (ty := 50) (u := 50) (by kernel_rfl) _ _ R (u8s (bareD 0)) rfl (hy9.congr (allH KB.out)) (szH KB.out)) rfl ⟨by rw [HDB.out], below_only bel_4 oy9 geR bel_4.size⟩
  | succ h IH =>
    intro i w h4 hi ht hk
    have hk1 : 0 < w.heap.size := range_lt hk (by simp [u32s, ks])
    have HKW : Hid (∀ w', Below w.heap.size w w' → w'.rangeAt 0 0 (u32s ks)) := Lib.hid fun w' hb => range_block hk (hb.block _ hk1)
    have CE := Lib.hid (fun w0 h0 => empty_any B mb t (h + 1) i w0 h0 hg (by omega))
    have KD := Lib.hid (node_ok t (h + 1) i)
    have hi2 : (2 * i + 2) * 2 ^ h ≤ 16 := by rw [Nat.pow_succ] at hi; rw [show (2 * i + 2) * 2 ^ h = (i + 1) * (2 ^ h * 2) by rw [Nat.mul_comm (2 ^ h) 2, ← Nat.mul_assoc]; congr 1; omega]; exact hi
    have hi1 : (2 * i + 1) * 2 ^ h ≤ 16 := Nat.le_trans (Nat.mul_le_mul_right _ (by omega)) hi2
    have hi16 : i < 16 := by have h1 : i + 1 ≤ (i + 1) * 2 ^ (h + 1) := Nat.le_mul_of_pos_right _ (Nat.pow_pos (by omega)); omega
    have CL := Lib.hid (fun w0 h0 h1 => IH (2 * i) w0 (by omega) hi1 h0 h1)
    have CR := Lib.hid (fun w0 h0 h1 => IH (2 * i + 1) w0 (by omega) hi2 h0 h1)
    have CJ := Lib.hid (fun w0 h0 => join_any (h + 1) (nodeD t h (2 * i)) (nodeD t h (2 * i + 1)) w0 (by omega) (node_ok t h _) (node_ok t h _) h0)
    have HB : Hid (∀ j, j ≤ 4 → ∀ w0, TrAt w0 B mb t → w0.rangeAt B (1 + 32 * j) (u8s (bareD j))) := Lib.hid fun j hj w0 h0 => h0.bdig hj
    have HZ : Hid (∀ (h i : Nat), (∀ k, k / 2 ^ h = i → t k = none) → nodeD t h i = bareD h) := Lib.hid fun h i hn => by rw [← bare_node h i]; exact node_congr h i fun j hj => hn j hj
    have h4' : h + 1 ≤ 4 := h4
    clear hk hk1 hg hi hi1 hi2 IH
    rw [show joinD (h + 1) (nodeD t h (2 * i)) (nodeD t h (2 * i + 1)) = nodeD t (h + 1) i from rfl] at CJ
    obtain ⟨dd, hdd⟩ : ∃ dd, dd = nodeD t (h + 1) i := ⟨_, rfl⟩
    have HD := Lib.hid hdd
    rw [← hdd] at KD CJ ⊢
    clear hdd
    generalize nodeD t h (2 * i) = dl at CL CJ
    generalize nodeD t h (2 * i + 1) = dr at CR CJ
    have hw1 : IntKind.i64.wrap (((h + 1 : Nat) : Int) - 1) = (h : Int) := by rw [IntKind.wrap_i64]; omega
    have hw2 : IntKind.i64.wrap (2 * (i : Int)) = ((2 * i : Nat) : Int) := by rw [IntKind.wrap_i64]; omega
    have hw3 : IntKind.i64.wrap (((2 * i : Nat) : Int) + 1) = ((2 * i + 1 : Nat) : Int) := by rw [IntKind.wrap_i64]; omega
    have H1 := Lib.hid hw1; have H2 := Lib.hid hw2; have H3 := Lib.hid hw3
    have HNZ : Hid (((h + 1 : Nat) : Int) ≠ 0) := Lib.hid (by omega)
    obtain ⟨n, hn⟩ : ∃ n, n = h + 1 := ⟨_, rfl⟩
    have HN := Lib.hid hn
    rw [← hn] at H1 CE CJ HNZ HD h4' ⊢
    obtain ⟨i2, hi2⟩ : ∃ i2, i2 = 2 * i := ⟨_, rfl⟩
    rw [← hi2] at H2 H3 CL
    obtain ⟨i3, hi3⟩ : ∃ i3, i3 = 2 * i + 1 := ⟨_, rfl⟩
    rw [show i2 + 1 = i3 by omega] at H3
    rw [← hi3] at CR
    clear hw1 hw2 hw3 hn hi2 hi3 h4
    go_enter Tryd.func28, Tryd.ntmps28
    go_wp2_with (first
      | ((with_reducible refine at_slot 6 ?_); (refine arm_alloc (o := ⟨some 6, _, _, _, _, _⟩) rfl _ rfl (u8s zh) zH ?_); intro R v1 Re hv1 nv1))
    have hbv1 := nv1.below
    have rrv1 : Row v1 R 50 (u8s zh) := hv1
    have geR : w.heap.size ≤ R := by have := Re.out; omega
    clear hv1 nv1 Re
    have T_2 : TrAt v1 B mb (t) := ht.old hbv1
    have bel_2 : Below w.heap.size w v1 := hbv1
    clear ht hbv1
    go_wp2_with fail
    refine (CE.out _ T_2).mono ?_
    rintro e y3 ⟨⟨b, rfl, hb1, hb2⟩, hB⟩
    have T_4 : TrAt y3 B mb (t) := T_2.old hB
    have R_4 : Row y3 R 50 (u8s zh) := rrv1.old hB
    have bel_4 : Below w.heap.size w y3 := below_step bel_2 bel_2.size hB
    clear T_2 rrv1 bel_2 hB
    cases b
    · clear hb1 hb2
      go_wp2_with (first
        | ((with_reducible refine at_slot 20 ?_); (refine arm_want (.bool false) 20 rfl (by kernel_rfl) (cmp_eql _ _ .i64 (by kernel_rfl) _ _ rfl .i64 ((n : Int)) (0) rfl rfl false (decide_eq_false HNZ.out) _) ?_))
        | ((with_reducible refine at_slot 35 ?_); (refine arm_want (.int .i64 (h : Int)) 35 rfl (by kernel_rfl) (run_op_sub64 _ _ _ _ rfl _ _ _ rfl rfl H1.out _) ?_))
        | ((with_reducible refine at_slot 37 ?_); (refine arm_want (.int .i64 (i2 : Int)) 37 rfl (by kernel_rfl) (run_op_mul64 _ _ _ _ rfl _ _ _ rfl rfl H2.out _) ?_)))
      refine (CL.out _ T_4 (HKW.out _ bel_4)).mono ?_
      rintro e y5 ⟨rfl, hB⟩
      have T_6 : TrAt y5 B mb (t) := T_4.old hB
      have R_6 : Row y5 R 50 (u8s zh) := R_4.old hB
      have bel_6 : Below w.heap.size w y5 := below_step bel_4 bel_4.size hB
      clear T_4 R_4 bel_4 hB
      go_wp2_with (first
        | ((with_reducible refine at_slot 41 ?_); (refine arm_want (.int .i64 (h : Int)) 41 rfl (by kernel_rfl) (run_op_sub64 _ _ _ _ rfl _ _ _ rfl rfl H1.out _) ?_))
        | ((with_reducible refine at_slot 43 ?_); (refine arm_want (.int .i64 (i2 : Int)) 43 rfl (by kernel_rfl) (run_op_mul64 _ _ _ _ rfl _ _ _ rfl rfl H2.out _) ?_))
        | ((with_reducible refine at_slot 44 ?_); (refine arm_want (.int .i64 (i3 : Int)) 44 rfl (by kernel_rfl) (run_op_addK _ _ _ _ rfl _ _ _ rfl rfl H3.out _) ?_)))
      refine (CR.out _ T_6 (HKW.out _ bel_6)).mono ?_
      rintro e y7 ⟨rfl, hB⟩
      have T_8 : TrAt y7 B mb (t) := T_6.old hB
      have R_8 : Row y7 R 50 (u8s zh) := R_6.old hB
      have bel_8 : Below w.heap.size w y7 := below_step bel_6 bel_6.size hB
      clear T_6 R_6 bel_6 hB
      go_wp2_with fail
      refine (CJ.out _ (HKW.out _ bel_8)).mono ?_
      rintro e y9 ⟨rfl, hB⟩
      have T_10 : TrAt y9 B mb (t) := T_8.old hB
      have R_10 : Row y9 R 50 (u8s zh) := R_8.old hB
      have bel_10 : Below w.heap.size w y9 := below_step bel_8 bel_8.size hB
      clear T_8 R_8 bel_8 hB
      go_wp2_with (first
        | ((with_reducible refine arm_store (o := ⟨none, _, _, _, _, _⟩) rfl _ _ _ rfl R 0 rfl (u8s dd) rfl _ _ (R_10) (fitH KD.out) (u8s_one _) (szH KD.out) ?_); intro y9 hy9 oy9 sy9))
      exact bodyPost_ret (v := .agg (u8s dd).toArray) (result_row (p := 6) (ty := 50) (u := 50) (by kernel_rfl) _ _ R (u8s dd) rfl (hy9.congr (allH KD.out)) (szH KD.out)) rfl ⟨rfl, below_only bel_10 oy9 geR bel_10.size⟩
    · skip
      have hd : dd = bareD n := by rw [HD.out, HZ.out n i (hb1 rfl)]
      have KB := Lib.hid (bareD_ok n)
      have hrg := HB.out n h4' _ T_4
      have HDB := Lib.hid hd
      clear hb1 hb2 hd
      go_wp2_with (first
        | ((with_reducible refine at_slot 17 ?_); (refine arm_want (.pointer (some ⟨B, 1 + 32 * n, none⟩)) 17 rfl (by kernel_rfl) (run_op_arr _ _ _ rfl 5 50 32 (by kernel_rfl) (by kernel_rfl) B 1 rfl .i64 _ rfl n rfl (by omega) (1 + 32 * n) (by omega) _) ?_))
        | ((with_reducible refine at_slot 18 ?_); (refine arm_load (o := ⟨some 18, _, _, _, _, _⟩) rfl _ _ rfl B (1 + 32 * n) rfl (u8s (bareD n)) (hrg) (szH KB.out) ?_))
        | ((with_reducible refine arm_store (o := ⟨none, _, _, _, _, _⟩) rfl _ _ _ rfl R 0 rfl (u8s (bareD n)) rfl _ _ (R_4) (fitH KB.out) (u8s_one _) (szH KB.out) ?_); intro y9 hy9 oy9 sy9))
      exact bodyPost_ret (v := .agg (u8s (bareD n)).toArray) (result_row (p := 6) (ty := 50) (u := 50) (by kernel_rfl) _ _ R (u8s (bareD n)) rfl (hy9.congr (allH KB.out)) (szH KB.out)) rfl ⟨by rw [HDB.out], below_only bel_4 oy9 geR bel_4.size⟩
end Go.Proofs.YtpebadhknpohkaaDoor.Tr
