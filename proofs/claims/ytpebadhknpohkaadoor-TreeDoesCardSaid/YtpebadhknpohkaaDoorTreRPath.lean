/-
  The contract of the document's Path. Over this seat's translation.
-/
import Derived.Test.YtpebadhknpohkaaDoorTreRNode
namespace Go.Proofs.YtpebadhknpohkaaDoor.Tr
open Go.ChangeShapes Go.WideShapes Go.ChangeAt Go.RowKit Go.Proofs.YtpebadhknpohkaaDoor.Mem Go.Proofs.YtpebadhknpohkaaDoor.Bt Go.Proofs.YtpebadhknpohkaaDoor.Wi Go.Proofs.YtpebadhknpohkaaDoor.Sha Go.Proofs.YtpebadhknpohkaaDoor.Ac Go.Proofs.YtpebadhknpohkaaDoor.Im
open Go.Proofs.YtpebadhknpohkaaDoor.Tg (bytesOf bytesOf_length bytesOf_lt bytesOf_inj Rd Rd.below Parts parts_one arm_one tagD tagD_len tagOf_any refTag_any total)
open Go.Proofs.YtpebadhknpohkaaDoor.Ep (H32 zh zh_ok Has h_len szH zH fitH allH came_at)
set_option linter.unusedVariables false
set_option linter.unusedSimpArgs false

theorem run_op_rem2 {P : Program} {o : Oper} {a : Act} (t t' : TypeId) (x y : Operand) (ho : o.op = .binOp .rem t x y t') (q : Nat) (hx : a.eval x = .int .i64 (q : Int)) (hy : a.eval y = .int .i64 2) (hq : q < 16) (w : World) :
    (execOp a.eval o).run P w = .ok (.value (.int .i64 ((q % 2 : Nat) : Int))) w := by
  have e1 : Int.tmod (q : Int) 2 = ((q % 2 : Nat) : Int) := rfl
  have e2 : IntKind.i64.wrap ((q % 2 : Nat) : Int) = ((q % 2 : Nat) : Int) := by rw [IntKind.wrap_i64]; omega
  unfold execOp
  simp only [ho, hx, hy, eqGuard, binOp, Op.intArith, Op.intDiv]
  simp [e1, e2, Op.intDiv, Op.intArith]
theorem run_op_quo2 {P : Program} {o : Oper} {a : Act} (t t' : TypeId) (x y : Operand) (ho : o.op = .binOp .quo t x y t') (q : Nat) (hx : a.eval x = .int .i64 (q : Int)) (hy : a.eval y = .int .i64 2) (hq : q < 16) (w : World) :
    (execOp a.eval o).run P w = .ok (.value (.int .i64 ((q / 2 : Nat) : Int))) w := by
  have e1 : Int.tdiv (q : Int) 2 = ((q / 2 : Nat) : Int) := rfl
  have e2 : IntKind.i64.wrap ((q / 2 : Nat) : Int) = ((q / 2 : Nat) : Int) := by rw [IntKind.wrap_i64]; omega
  unfold execOp
  simp only [ho, hx, hy, eqGuard, binOp, Op.intArith, Op.intDiv]
  have e3 : IntKind.i64.wrap ((q : Int) / 2) = (q : Int) / 2 := by rw [IntKind.wrap_i64]; omega
  simp [e1, e2, e3, Op.intDiv, Op.intArith]
theorem rtree_ne_path {w : World} {C : Nat} {t : Tree} {L : List (List Nat)} {ty : TypeId} (h : RAt w C t) (g : Row w C ty (dgC L)) : False := by
  have e := h.row.inj g
  have h0 : (rtcs (accs t) (iss t))[48]? = some (.bool (t 0).isSome) := rt_is (accs_len t) (iss_get t (k := 0) (by omega))
  rw [e] at h0
  have hm := List.mem_of_getElem? h0
  unfold dgC at hm
  obtain ⟨x, _, hx⟩ := List.mem_flatMap.1 hm
  obtain ⟨m, hm⟩ := Ep.u8s_int x _ hx
  cases hm
structure RpRel (w : World) (C P Z : Nat) (t : Tree) (p : Nat) (i a : Value) (wr : World) : Prop where
  ex : ∃ k : Nat, k ≤ 4 ∧ i = .int .i64 (k : Int) ∧ a = .int .i64 ((p / 2 ^ k : Nat) : Int) ∧ Row wr P 51 (dgC (pl t p k))
  rz : Row wr Z 51 (dgC z4)
  tr : RAt wr C t
  bel : Below w.heap.size w wr
set_option maxHeartbeats 4000000 in
set_option maxRecDepth 100000 in
theorem rpath_any (C : Nat) (t : Tree) (p : Int) (w : World) (ht : RAt w C t) (hg : Good t) (hk : w.rangeAt 1 0 (u32s ks)) :
    Calls Tryd.prog 18 #[.pointer (some ⟨C, 0, none⟩), .int .i64 p] w (PathPost w t p) := by
  have hk1 : 1 < w.heap.size := range_lt hk (by simp [u32s, ks])
  have HKW : Hid (∀ w', Below w.heap.size w w' → w'.rangeAt 1 0 (u32s ks)) := Lib.hid fun w' hb => range_block hk (hb.block _ hk1)
  have KZ := Lib.hid (sz_rpath z4_ok rfl)
  have FZ := Lib.hid (fitP z4_ok rfl)
  have AZ := Lib.hid (allP z4_ok rfl)
  have BZ := Lib.hid built_rpath
  by_cases hneg : p < 0
  · have q1 : decide (p < (0 : Int)) = true := decide_eq_true (by omega)
    have hnot : ¬ (0 ≤ p ∧ p < 16) := by omega
    have HI : Hid (pathI t p = z4) := Lib.hid (by unfold pathI; rw [if_neg hnot])
    have HE : Hid (pathE p = 1) := Lib.hid (by unfold pathE; rw [if_neg hnot])
    clear hk hk1 hg hnot ht
    go_enter Tryd.func18, Tryd.ntmps18
    go_wp2_with (first
      | ((with_reducible refine at_slot 9 ?_); (refine arm_build (o := ⟨some 9, _, _, _, _, _⟩) rfl _ _ rfl (dgC z4) (by simp only [List.map_toArray, List.map_nil]; exact BZ.out) ?_))
      | ((with_reducible refine at_slot 4 ?_); (refine arm_alloc (o := ⟨some 4, _, _, _, _, _⟩) rfl _ rfl (dgC z4) z_rpath ?_); intro Z v1 Ze hv1 nv1)
      | ((with_reducible refine at_slot 6 ?_); (refine arm_alloc (o := ⟨some 6, _, _, _, _, _⟩) rfl _ rfl (dgC z4) z_rpath ?_); intro P v2 Pe hv2 nv2)
      | ((with_reducible refine arm_store (o := ⟨none, _, _, _, _, _⟩) rfl _ _ _ rfl P 0 rfl (dgC z4) rfl _ _ hv2 FZ.out (dgC_ones _) KZ.out ?_); intro v3 hv3 ov3 sv3; have hP3 := hv3.congr AZ.out; have hZ3 := (hv1.old nv2.below).only ov3 (by have := Pe.out; have := hv1.lt; omega))
      | ((with_reducible refine at_slot 16 ?_); (refine arm_load (o := ⟨some 16, _, _, _, _, _⟩) rfl _ _ rfl P 0 rfl (dgC z4) ((Has.refl _).range hP3) KZ.out ?_))
      | ((with_reducible refine arm_store (o := ⟨none, _, _, _, _, _⟩) rfl _ _ _ rfl Z 0 rfl (dgC z4) rfl _ _ (hZ3) FZ.out (dgC_ones _) KZ.out ?_); intro y9 hy9 oy9 sy9))
    have geZ : w.heap.size ≤ Z := by have := Ze.out; omega
    have geP : w.heap.size ≤ P := by have := Pe.out; have := nv1.size; omega
    have hZP : Z ≠ P := by have := Pe.out; have := hv1.lt; omega
    have bel3 : Below w.heap.size w v3 := below_only (below_step nv1.below nv1.below.size nv2.below) ov3 geP (below_step nv1.below nv1.below.size nv2.below).size
    clear hv1 hv2 nv1 nv2 ov3 sv3 Ze Pe hv3
    exact bodyPost_ret (result_row2 (p := 4) (u := 5) (ty := 51) (t := 51) (by kernel_rfl) _ _ Z (dgC z4) (.int .i64 1) rfl rfl (hy9.congr AZ.out) KZ.out) rfl ⟨by rw [HI.out, HE.out]; rfl, below_only bel3 oy9 geZ bel3.size⟩
  · have q1 : decide (p < (0 : Int)) = false := decide_eq_false (by omega)
    by_cases hbig : 15 < p
    · have q2 : decide ((15 : Int) < p) = true := decide_eq_true (by omega)
      have hnot : ¬ (0 ≤ p ∧ p < 16) := by omega
      have HI : Hid (pathI t p = z4) := Lib.hid (by unfold pathI; rw [if_neg hnot])
      have HE : Hid (pathE p = 1) := Lib.hid (by unfold pathE; rw [if_neg hnot])
      clear hk hk1 hg hnot ht
      go_enter Tryd.func18, Tryd.ntmps18
      go_wp2_with (first
        | ((with_reducible refine at_slot 9 ?_); (refine arm_build (o := ⟨some 9, _, _, _, _, _⟩) rfl _ _ rfl (dgC z4) (by simp only [List.map_toArray, List.map_nil]; exact BZ.out) ?_))
        | ((with_reducible refine at_slot 4 ?_); (refine arm_alloc (o := ⟨some 4, _, _, _, _, _⟩) rfl _ rfl (dgC z4) z_rpath ?_); intro Z v1 Ze hv1 nv1)
        | ((with_reducible refine at_slot 6 ?_); (refine arm_alloc (o := ⟨some 6, _, _, _, _, _⟩) rfl _ rfl (dgC z4) z_rpath ?_); intro P v2 Pe hv2 nv2)
        | ((with_reducible refine arm_store (o := ⟨none, _, _, _, _, _⟩) rfl _ _ _ rfl P 0 rfl (dgC z4) rfl _ _ hv2 FZ.out (dgC_ones _) KZ.out ?_); intro v3 hv3 ov3 sv3; have hP3 := hv3.congr AZ.out; have hZ3 := (hv1.old nv2.below).only ov3 (by have := Pe.out; have := hv1.lt; omega))
        | ((with_reducible refine at_slot 16 ?_); (refine arm_load (o := ⟨some 16, _, _, _, _, _⟩) rfl _ _ rfl P 0 rfl (dgC z4) ((Has.refl _).range hP3) KZ.out ?_))
        | ((with_reducible refine arm_store (o := ⟨none, _, _, _, _, _⟩) rfl _ _ _ rfl Z 0 rfl (dgC z4) rfl _ _ (hZ3) FZ.out (dgC_ones _) KZ.out ?_); intro y9 hy9 oy9 sy9))
      have geZ : w.heap.size ≤ Z := by have := Ze.out; omega
      have geP : w.heap.size ≤ P := by have := Pe.out; have := nv1.size; omega
      have hZP : Z ≠ P := by have := Pe.out; have := hv1.lt; omega
      have bel3 : Below w.heap.size w v3 := below_only (below_step nv1.below nv1.below.size nv2.below) ov3 geP (below_step nv1.below nv1.below.size nv2.below).size
      clear hv1 hv2 nv1 nv2 ov3 sv3 Ze Pe hv3
      exact bodyPost_ret (result_row2 (p := 4) (u := 5) (ty := 51) (t := 51) (by kernel_rfl) _ _ Z (dgC z4) (.int .i64 1) rfl rfl (hy9.congr AZ.out) KZ.out) rfl ⟨by rw [HI.out, HE.out]; rfl, below_only bel3 oy9 geZ bel3.size⟩
    · have q2 : decide ((15 : Int) < p) = false := decide_eq_false (by omega)
      obtain ⟨k, hkp⟩ : ∃ k : Nat, p = (k : Int) := ⟨p.toNat, by omega⟩
      subst hkp
      have hk16 : k < 16 := by omega
      have HI : Hid (pathI t (k : Int) = pathD t k) := Lib.hid (by unfold pathI; rw [if_pos (by omega), Int.toNat_natCast])
      have HE : Hid (pathE (k : Int) = 0) := Lib.hid (by unfold pathE; rw [if_pos (by omega)])
      obtain ⟨q, hq⟩ : ∃ q, q = k := ⟨_, rfl⟩
      rw [← hq] at HI HE hk16 q1 q2 ⊢
      clear hq
      have CN : Hid (∀ (k : Nat) w0, k < 4 → RAt w0 C t → w0.rangeAt 1 0 (u32s ks) → Calls Tryd.prog 29 #[.pointer (some ⟨C, 0, none⟩), .int .i64 (k : Int), .int .i64 ((sib (q / 2 ^ k)) : Int)] w0 fun e w' => e = .returned (.agg (u8s (besD t q k)).toArray) ∧ Below w0.heap.size w0 w') := Lib.hid fun k w0 hk4 h0 h1 => rnode_any C t hg k (sib (q / 2 ^ k)) w0 (by omega) (path_fit hk16 hk4) h0 h1
      have HQ := Lib.hid hk16
      clear hk hk1 hg hneg hbig hk16
      go_enter Tryd.func18, Tryd.ntmps18
      go_wp2_with (first
        | ((with_reducible refine at_slot 9 ?_); (refine arm_build (o := ⟨some 9, _, _, _, _, _⟩) rfl _ _ rfl (dgC z4) (by simp only [List.map_toArray, List.map_nil]; exact BZ.out) ?_))
        | ((with_reducible refine at_slot 4 ?_); (refine arm_alloc (o := ⟨some 4, _, _, _, _, _⟩) rfl _ rfl (dgC z4) z_rpath ?_); intro Z v1 Ze hv1 nv1)
        | ((with_reducible refine at_slot 6 ?_); (refine arm_alloc (o := ⟨some 6, _, _, _, _, _⟩) rfl _ rfl (dgC z4) z_rpath ?_); intro P v2 Pe hv2 nv2)
        | ((with_reducible refine arm_store (o := ⟨none, _, _, _, _, _⟩) rfl _ _ _ rfl P 0 rfl (dgC z4) rfl _ _ hv2 FZ.out (dgC_ones _) KZ.out ?_); intro v3 hv3 ov3 sv3; have hP3 := hv3.congr AZ.out; have hZ3 := (hv1.old nv2.below).only ov3 (by have := Pe.out; have := hv1.lt; omega)))
      have geZ : w.heap.size ≤ Z := by have := Ze.out; omega
      have geP : w.heap.size ≤ P := by have := Pe.out; have := nv1.size; omega
      have hZP : Z ≠ P := by have := Pe.out; have := hv1.lt; omega
      have bel3 : Below w.heap.size w v3 := below_only (below_step nv1.below nv1.below.size nv2.below) ov3 geP (below_step nv1.below nv1.below.size nv2.below).size
      clear hv1 hv2 nv1 nv2 ov3 sv3 Ze Pe hv3
      try simp only [Act.put]
      have ht3 := ht.old bel3
      have h0 : RpRel w C P Z t q (.int .i64 0) (.int .i64 (q : Int)) v3 := ⟨⟨0, by omega, rfl, by rw [Nat.pow_zero, Nat.div_one], hP3⟩, hZ3, ht3, bel3⟩
      clear hP3 hZ3 ht3 bel3
      go_loopw [8, 7] (fun i a wr => RpRel w C P Z t q i a wr) (fun i _ _ => 4 - (intOf i).toNat)
      case atStart => exact h0
      case round =>
        clear h0
        obtain ⟨⟨k, hk, rfl, rfl, hrow⟩, hz, htr, bel⟩ := hrel
        by_cases hlt : k < 4
        · have ik : (k : Int) < 4 := by omega
          have hx16 : q / 2 ^ k < 16 := Nat.lt_of_le_of_lt (Nat.div_le_self _ _) HQ.out
          have CN := Lib.hid (fun w0 => CN.out k w0 hlt)
          have KD := Lib.hid (bes_ok t q k)
          have HLY : Hid (lay (dgC (pl t q k)) (k * 32) (u8s (besD t q k)) = dgC (pl t q (k + 1))) := Lib.hid (by rw [Nat.mul_comm k 32]; exact path_lay (pl_ok t q k) (bes_ok t q k) (by rw [pl_len]; omega))
          have HFT : Hid (k * 32 + (u8s (besD t q k)).length ≤ (dgC (pl t q k)).length) := Lib.hid (by rw [dg4 (pl_ok t q k) (pl_len t q k), h_len (bes_ok t q k)]; omega)
          have HNX : Hid (q / 2 ^ (k + 1) = q / 2 ^ k / 2) := Lib.hid (by rw [Nat.pow_succ, Nat.div_div_eq_div_mul])
          generalize besD t q k = dd at CN KD HLY HFT
          generalize q / 2 ^ k = j at hx16 CN HNX ⊢
          have HX16 := Lib.hid hx16
          by_cases he : j % 2 = 0
          · have hs : sib j = j + 1 := by unfold sib; rw [if_pos he]
            rw [hs] at CN
            have HM : Hid (decide (((j % 2 : Nat) : Int) = 0) = true) := Lib.hid (decide_eq_true (by omega))
            have HW : Hid (IntKind.i64.wrap ((j : Int) + 1) = ((j + 1 : Nat) : Int)) := Lib.hid (by rw [IntKind.wrap_i64]; omega)
            clear hs he hx16
            go_wp2_with (first
              | ((with_reducible refine at_slot 23 ?_); (refine arm_want (.int .i64 ((j % 2 : Nat) : Int)) 23 rfl (by kernel_rfl) (run_op_rem2 _ _ _ _ rfl j rfl rfl HX16.out _) ?_))
              | ((with_reducible refine at_slot 24 ?_); (refine arm_want (.bool true) 24 rfl (by kernel_rfl) (cmp_eql _ _ .i64 (by kernel_rfl) _ _ rfl .i64 _ _ rfl rfl true HM.out _) ?_))
              | ((with_reducible refine at_slot 29 ?_); (refine arm_want (.int .i64 ((j + 1 : Nat) : Int)) 29 rfl (by kernel_rfl) (run_op_addK _ _ _ _ rfl _ _ _ rfl rfl HW.out _) ?_)))
            refine (CN.out _ htr (HKW.out _ bel)).mono ?_
            rintro e y101 ⟨rfl, hB⟩
            have P_102 : Row y101 P 51 (dgC (pl t q k)) := hrow.old hB
            have Z_102 : Row y101 Z 51 (dgC z4) := hz.old hB
            have T_102 : RAt y101 C t := htr.old hB
            have bel_102 : Below w.heap.size w y101 := below_step bel bel.size hB
            clear hrow hz htr bel hB
            have hTP : C ≠ P := fun e => by subst e; exact rtree_ne_path T_102 P_102
            go_wp2_with (first
              | ((with_reducible refine arm_store (o := ⟨none, _, _, _, _, _⟩) rfl _ _ _ rfl P (k * 32) rfl (u8s dd) rfl _ _ (P_102) HFT.out (u8s_one _) (szH KD.out) ?_); intro y9 hy9 oy9 sy9)
              | ((with_reducible refine at_slot 40 ?_); (refine arm_want (.int .i64 ((j / 2 : Nat) : Int)) 40 rfl (by kernel_rfl) (run_op_quo2 _ _ _ _ rfl j rfl rfl HX16.out _) ?_)))
            try simp only [Act.put]
            go_roundw
            case rel => exact ⟨⟨k + 1, by omega, by go_num, by rw [HNX.out]; first | rfl | go_num | simp, hy9.congr HLY.out⟩, Z_102.only oy9 hZP, T_102.only oy9 hTP, below_only bel_102 oy9 geP bel_102.size⟩
            case measure => simp [intOf]; omega
          · have hs : sib j = j - 1 := by unfold sib; rw [if_neg he]
            rw [hs] at CN
            have HM : Hid (decide (((j % 2 : Nat) : Int) = 0) = false) := Lib.hid (decide_eq_false (by omega))
            have HW : Hid (IntKind.i64.wrap ((j : Int) - 1) = ((j - 1 : Nat) : Int)) := Lib.hid (by rw [IntKind.wrap_i64]; omega)
            clear hs he hx16
            go_wp2_with (first
              | ((with_reducible refine at_slot 23 ?_); (refine arm_want (.int .i64 ((j % 2 : Nat) : Int)) 23 rfl (by kernel_rfl) (run_op_rem2 _ _ _ _ rfl j rfl rfl HX16.out _) ?_))
              | ((with_reducible refine at_slot 24 ?_); (refine arm_want (.bool false) 24 rfl (by kernel_rfl) (cmp_eql _ _ .i64 (by kernel_rfl) _ _ rfl .i64 _ _ rfl rfl false HM.out _) ?_))
              | ((with_reducible refine at_slot 36 ?_); (refine arm_want (.int .i64 ((j - 1 : Nat) : Int)) 36 rfl (by kernel_rfl) (run_op_sub64 _ _ _ _ rfl _ _ _ rfl rfl HW.out _) ?_)))
            refine (CN.out _ htr (HKW.out _ bel)).mono ?_
            rintro e y101 ⟨rfl, hB⟩
            have P_102 : Row y101 P 51 (dgC (pl t q k)) := hrow.old hB
            have Z_102 : Row y101 Z 51 (dgC z4) := hz.old hB
            have T_102 : RAt y101 C t := htr.old hB
            have bel_102 : Below w.heap.size w y101 := below_step bel bel.size hB
            clear hrow hz htr bel hB
            have hTP : C ≠ P := fun e => by subst e; exact rtree_ne_path T_102 P_102
            go_wp2_with (first
              | ((with_reducible refine arm_store (o := ⟨none, _, _, _, _, _⟩) rfl _ _ _ rfl P (k * 32) rfl (u8s dd) rfl _ _ (P_102) HFT.out (u8s_one _) (szH KD.out) ?_); intro y9 hy9 oy9 sy9)
              | ((with_reducible refine at_slot 40 ?_); (refine arm_want (.int .i64 ((j / 2 : Nat) : Int)) 40 rfl (by kernel_rfl) (run_op_quo2 _ _ _ _ rfl j rfl rfl HX16.out _) ?_)))
            try simp only [Act.put]
            go_roundw
            case rel => exact ⟨⟨k + 1, by omega, by go_num, by rw [HNX.out]; first | rfl | go_num | simp, hy9.congr HLY.out⟩, Z_102.only oy9 hZP, T_102.only oy9 hTP, below_only bel_102 oy9 geP bel_102.size⟩
            case measure => simp [intOf]; omega
        · obtain rfl : k = 4 := by omega
          have hrow4 : Row wr P 51 (dgC (pathD t q)) := hrow
          have KP := Lib.hid (sz_rpath (path_ok t q) rfl)
          have KF := Lib.hid (fitP (path_ok t q) rfl)
          have KA := Lib.hid (allP (path_ok t q) rfl)
          clear hrow
          generalize pathD t q = dp at hrow4 KP KF KA HI
          go_wp2_with (first
            | ((with_reducible refine at_slot 41 ?_); (refine arm_load (o := ⟨some 41, _, _, _, _, _⟩) rfl _ _ rfl P 0 rfl (dgC dp) ((Has.refl _).range hrow4) KP.out ?_))
            | ((with_reducible refine arm_store (o := ⟨none, _, _, _, _, _⟩) rfl _ _ _ rfl Z 0 rfl (dgC dp) rfl _ _ (hz) KF.out (dgC_ones _) KP.out ?_); intro y9 hy9 oy9 sy9))
          exact bodyPost_ret (result_row2 (p := 4) (u := 5) (ty := 51) (t := 51) (by kernel_rfl) _ _ Z (dgC dp) (.int .i64 0) rfl rfl (hy9.congr KA.out) KP.out) rfl ⟨by rw [HI.out, HE.out]; rfl, below_only bel oy9 geZ bel.size⟩
end Go.Proofs.YtpebadhknpohkaaDoor.Tr
