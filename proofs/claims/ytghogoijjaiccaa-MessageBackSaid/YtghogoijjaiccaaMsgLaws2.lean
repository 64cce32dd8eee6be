/-
  The walk of layer 17's statement MessageBack, out of the contracts: it returns true, and changes nothing that was there. Over this seat's translation.
-/
import Derived.Test.YtghogoijjaiccaaMsgAwake
import Derived.Test.YtghogoijjaiccaaAccRefAll
namespace Go.Proofs.Ytghogoijjaiccaa.Ms
open Go.ChangeShapes Go.WideShapes Go.ChangeAt Go.RowKit Go.Proofs.Ytghogoijjaiccaa.Mem Go.Proofs.Ytghogoijjaiccaa.Bt Go.Proofs.Ytghogoijjaiccaa.Wi Go.Proofs.Ytghogoijjaiccaa.Ac Go.Proofs.Ytghogoijjaiccaa.Tr Go.Proofs.Ytghogoijjaiccaa.Pf
open Go.Proofs.Ytghogoijjaiccaa.Tg (bytesOf bytesOf_length bytesOf_lt bytesOf_inj Rd Rd.below)
open Go.Proofs.Ytghogoijjaiccaa.Ep (H32 zh zh_ok Has Has.refl Has.left Has.right Has.head Has.get Has.chunk Has.range h_len szH zH fitH allH one_app num32)
open Go.Proofs.Ytghogoijjaiccaa.Sa (Sta scs scs_len scs_one zs zs_ok scs_app staB staB_len SRt rdS rdS_ok sz_sta z_sta sz_rsta z_rsta fitS allS)
set_option linter.unusedVariables false
set_option linter.unusedSimpArgs false

theorem run_op_eqlBB {o : Oper} {a : Act} (x y : Operand) (t' : TypeId) (ho : o.op = .binOp .eql 4 x y t') (p q : Bool) (hx : a.eval x = .bool p) (hy : a.eval y = .bool q) (r : Bool) (hr : (p == q) = r) (w : World) : (execOp a.eval o).run Try.prog w = .ok (.value (.bool r)) w := by
  subst hr
  unfold execOp
  cases p <;> cases q <;> simp only [ho, hx, hy] <;> kernel_rfl
theorem run_op_neqBB {o : Oper} {a : Act} (x y : Operand) (t' : TypeId) (ho : o.op = .binOp .neq 4 x y t') (p q : Bool) (hx : a.eval x = .bool p) (hy : a.eval y = .bool q) (r : Bool) (hr : (p != q) = r) (w : World) : (execOp a.eval o).run Try.prog w = .ok (.value (.bool r)) w := by
  subst hr
  unfold execOp
  cases p <;> cases q <;> simp only [ho, hx, hy] <;> kernel_rfl
theorem rd_read {b : List Nat} (p : Option Addr) (cap : Nat) (w : World) (hc : Bt.Came w p cap b) (n : Nat) (hn : n = b.length) : Calls Try.prog 10 #[.slice p n cap] w fun e w' => e = .returned (.tuple #[.agg (mcs (rdM b).1).toArray, .int .i64 ((rdM b).2 : Int)]) ∧ Below w.heap.size w w' := by
  subst hn
  exact (mread_any b p cap w hc).mono fun e w' g => ⟨g.ret, g.bel⟩
theorem came_less {w : World} {p : Option Addr} {cap n : Nat} {b : List Nat} (h : Bt.Came w p cap b) (hn : n ≤ b.length) : Bt.Came w p cap (b.take n) := by
  refine ⟨by have := h.cap_; rw [List.length_take]; omega, h.nil_, fun hne => ?_, fun x hx => h.lt_ x (List.mem_of_mem_take hx), h.max_⟩
  obtain ⟨g, o, e, hr⟩ := h.at_ (fun e => hne (by rw [e]; simp))
  exact ⟨g, o, e, range_take n hr⟩
theorem mbB_iff {m n : Msg} (k : m.Ok) (j : n.Ok) (hm : MRt m) (hn : MRt n) : mbB m = mbB n ↔ m = n := ⟨fun h => msgB_inj k j hm hn (by rw [← mbB_rt hm, ← mbB_rt hn, h]), fun h => by rw [h]⟩
set_option maxHeartbeats 4000000 in
set_option maxRecDepth 100000 in
theorem messageBack_any (m n : Msg) (b : List Nat) (p : Option Addr) (cap : Nat) (w : World) (k : m.Ok) (j : n.Ok) (hc : Bt.Came w p cap b) :
    Calls Try.prog 4 #[.agg (mcs m).toArray, .agg (mcs n).toArray, .slice p b.length cap] w fun e w' => e = .returned (.bool true) ∧ Below w.heap.size w w' := by
  have K := Lib.hid k; have J := Lib.hid j
  have CA := Lib.hid (fun w0 => awake17_any w0)
  have CNM := Lib.hid (m_nm k.st).get; have CNN := Lib.hid (m_nm j.st).get
  have SX := Lib.hid (sz_msg k); have SY := Lib.hid (sz_msg j)
  have HCM : Hid (∀ w', Below w.heap.size w w' → Bt.Came w' p cap b) := Lib.hid fun w' hb => hc.below hb
  have HLT := Lib.hid hc.lt_
  have RK := Lib.hid (rdM_ok hc.lt_)
  have CRM := Lib.hid (fun w0 => mright_any m w0 k)
  have CBN := Lib.hid (fun w0 => mbytes_any n w0 j); have CBM := Lib.hid (fun w0 => mbytes_any m w0 k)
  have HEQ : Hid (MRt m → MRt n → (mbB m = mbB n ↔ m = n)) := Lib.hid (mbB_iff k j)
  have HNL := Lib.hid (mbB_len j)
  obtain ⟨s, hs⟩ : ∃ s, s = m.acc.nm := ⟨_, rfl⟩
  obtain ⟨t, ht⟩ : ∃ s, s = n.acc.nm := ⟨_, rfl⟩
  obtain ⟨lb, hlb⟩ : ∃ d, d = b.length := ⟨_, rfl⟩
  obtain ⟨kk, hkk⟩ : ∃ d, d = (rdM b).1 := ⟨_, rfl⟩
  obtain ⟨ek, hek⟩ : ∃ d, d = (rdM b).2 := ⟨_, rfl⟩
  rw [← hs] at CNM
  rw [← ht] at CNN
  have CD0 : Hid (∀ w0, Below w.heap.size w w0 → Calls Try.prog 10 #[.slice p lb cap] w0 fun e w' => e = .returned (.tuple #[.agg (mcs kk).toArray, .int .i64 (ek : Int)]) ∧ Below w0.heap.size w0 w') := Lib.hid fun w0 h => by rw [hkk, hek]; exact rd_read p cap w0 (HCM.out w0 h) lb hlb
  have HB0 : Hid (ek = 0 → mbB kk = b ∧ MRt kk) := Lib.hid fun h => by
    rw [hek] at h
    obtain ⟨g1, g2⟩ := bytes_back HLT.out h
    rw [hkk]
    exact ⟨by rw [mbB_rt g2, g1], g2⟩
  have HW0 : Hid (ek ≠ 0 → kk = zm) := Lib.hid fun h => by rw [hek] at h; rw [hkk]; exact rd_wrong h
  rw [← hkk] at RK
  have HLB := Lib.hid hlb
  rw [← hlb]
  clear hs ht hlb hkk hek k j hc
  by_cases h1 : 1000 < s.size
  · have d1 : decide ((1000 : Int) < (s.size : Int)) = true := decide_eq_true (by omega)
    have d1' : decide (1000 < s.size) = true := decide_eq_true (by omega)
    clear h1
    go_enter Try.func4, Try.ntmps4
    go_wp2_with (first
      | ((with_reducible refine at_slot 3 ?_); (refine arm_box (o := ⟨some 3, _, _, _, _, _⟩) rfl _ _ rfl (mcs m) rfl ?_); intro X v1 Xe hv1 nv1; try simp only [Act.put, List.setIfInBounds_toArray, List.set_cons_zero, List.set_cons_succ])
      | ((with_reducible refine at_slot 4 ?_); (refine arm_box (o := ⟨some 4, _, _, _, _, _⟩) rfl _ _ rfl (mcs n) rfl ?_); intro Y v2 Ye hv2 nv2; try simp only [Act.put, List.setIfInBounds_toArray, List.set_cons_zero, List.set_cons_succ]))
    have hbv1 := nv1.below
    have rrv1 : Row v1 X 42 (mcs m) := hv1
    have hbv2 := nv2.below
    have rrv2 : Row v2 Y 42 (mcs n) := hv2
    have geX : w.heap.size ≤ X := by have := Xe.out; omega
    have lXx : w.heap.size ≤ X := by have := Xe.out; omega
    clear hv1 nv1 Xe
    have bel_3 : Below w.heap.size w v1 := hbv1
    clear hbv1
    have geY : w.heap.size ≤ Y := by have := Ye.out; have := bel_3.size; omega
    have ltXY : X < Y := by have := Ye.out; have := rrv1.lt; omega
    have lYx : v1.heap.size ≤ Y := by have := Ye.out; omega
    clear hv2 nv2 Ye
    have X_4 : Row v2 X 42 (mcs m) := rrv1.old hbv2
    have bel_4 : Below w.heap.size w v2 := below_step bel_3 bel_3.size hbv2
    clear rrv1 bel_3 hbv2
    refine (CA.out _).mono ?_
    rintro e y5 ⟨rfl, hB⟩
    have X_6 : Row y5 X 42 (mcs m) := X_4.old hB
    have Y_6 : Row y5 Y 42 (mcs n) := rrv2.old hB
    have bel_6 : Below w.heap.size w y5 := below_step bel_4 bel_4.size hB
    clear X_4 rrv2 bel_4 hB
    have cnx := X_6.cell CNM.out; have cny := Y_6.cell CNN.out
    go_wp2_with fail
    go_ret
    exact ⟨rfl, bel_6⟩
  have d1 : decide ((1000 : Int) < (s.size : Int)) = false := decide_eq_false (by omega)
  have d1' : decide (1000 < s.size) = false := decide_eq_false (by omega)
  by_cases h2 : 1000 < t.size
  · have d2 : decide ((1000 : Int) < (t.size : Int)) = true := decide_eq_true (by omega)
    have d2' : decide (1000 < t.size) = true := decide_eq_true (by omega)
    clear h1 h2
    go_enter Try.func4, Try.ntmps4
    go_wp2_with (first
      | ((with_reducible refine at_slot 3 ?_); (refine arm_box (o := ⟨some 3, _, _, _, _, _⟩) rfl _ _ rfl (mcs m) rfl ?_); intro X v1 Xe hv1 nv1; try simp only [Act.put, List.setIfInBounds_toArray, List.set_cons_zero, List.set_cons_succ])
      | ((with_reducible refine at_slot 4 ?_); (refine arm_box (o := ⟨some 4, _, _, _, _, _⟩) rfl _ _ rfl (mcs n) rfl ?_); intro Y v2 Ye hv2 nv2; try simp only [Act.put, List.setIfInBounds_toArray, List.set_cons_zero, List.set_cons_succ]))
    have hbv1 := nv1.below
    have rrv1 : Row v1 X 42 (mcs m) := hv1
    have hbv2 := nv2.below
    have rrv2 : Row v2 Y 42 (mcs n) := hv2
    have geX : w.heap.size ≤ X := by have := Xe.out; omega
    have lXx : w.heap.size ≤ X := by have := Xe.out; omega
    clear hv1 nv1 Xe
    have bel_3 : Below w.heap.size w v1 := hbv1
    clear hbv1
    have geY : w.heap.size ≤ Y := by have := Ye.out; have := bel_3.size; omega
    have ltXY : X < Y := by have := Ye.out; have := rrv1.lt; omega
    have lYx : v1.heap.size ≤ Y := by have := Ye.out; omega
    clear hv2 nv2 Ye
    have X_4 : Row v2 X 42 (mcs m) := rrv1.old hbv2
    have bel_4 : Below w.heap.size w v2 := below_step bel_3 bel_3.size hbv2
    clear rrv1 bel_3 hbv2
    refine (CA.out _).mono ?_
    rintro e y5 ⟨rfl, hB⟩
    have X_6 : Row y5 X 42 (mcs m) := X_4.old hB
    have Y_6 : Row y5 Y 42 (mcs n) := rrv2.old hB
    have bel_6 : Below w.heap.size w y5 := below_step bel_4 bel_4.size hB
    clear X_4 rrv2 bel_4 hB
    have cnx := X_6.cell CNM.out; have cny := Y_6.cell CNN.out
    go_wp2_with fail
    go_ret
    exact ⟨rfl, bel_6⟩
  have d2 : decide ((1000 : Int) < (t.size : Int)) = false := decide_eq_false (by omega)
  have d2' : decide (1000 < t.size) = false := decide_eq_false (by omega)
  by_cases h3 : 1000 < lb
  · have d3 : decide ((1000 : Int) < (lb : Int)) = true := decide_eq_true (by omega)
    have d3' : decide (1000 < lb) = true := decide_eq_true (by omega)
    clear h1 h2 h3
    go_enter Try.func4, Try.ntmps4
    go_wp2_with (first
      | ((with_reducible refine at_slot 3 ?_); (refine arm_box (o := ⟨some 3, _, _, _, _, _⟩) rfl _ _ rfl (mcs m) rfl ?_); intro X v1 Xe hv1 nv1; try simp only [Act.put, List.setIfInBounds_toArray, List.set_cons_zero, List.set_cons_succ])
      | ((with_reducible refine at_slot 4 ?_); (refine arm_box (o := ⟨some 4, _, _, _, _, _⟩) rfl _ _ rfl (mcs n) rfl ?_); intro Y v2 Ye hv2 nv2; try simp only [Act.put, List.setIfInBounds_toArray, List.set_cons_zero, List.set_cons_succ]))
    have hbv1 := nv1.below
    have rrv1 : Row v1 X 42 (mcs m) := hv1
    have hbv2 := nv2.below
    have rrv2 : Row v2 Y 42 (mcs n) := hv2
    have geX : w.heap.size ≤ X := by have := Xe.out; omega
    have lXx : w.heap.size ≤ X := by have := Xe.out; omega
    clear hv1 nv1 Xe
    have bel_3 : Below w.heap.size w v1 := hbv1
    clear hbv1
    have geY : w.heap.size ≤ Y := by have := Ye.out; have := bel_3.size; omega
    have ltXY : X < Y := by have := Ye.out; have := rrv1.lt; omega
    have lYx : v1.heap.size ≤ Y := by have := Ye.out; omega
    clear hv2 nv2 Ye
    have X_4 : Row v2 X 42 (mcs m) := rrv1.old hbv2
    have bel_4 : Below w.heap.size w v2 := below_step bel_3 bel_3.size hbv2
    clear rrv1 bel_3 hbv2
    refine (CA.out _).mono ?_
    rintro e y5 ⟨rfl, hB⟩
    have X_6 : Row y5 X 42 (mcs m) := X_4.old hB
    have Y_6 : Row y5 Y 42 (mcs n) := rrv2.old hB
    have bel_6 : Below w.heap.size w y5 := below_step bel_4 bel_4.size hB
    clear X_4 rrv2 bel_4 hB
    have cnx := X_6.cell CNM.out; have cny := Y_6.cell CNN.out
    go_wp2_with fail
    go_ret
    exact ⟨rfl, bel_6⟩
  have d3 : decide ((1000 : Int) < (lb : Int)) = false := decide_eq_false (by omega)
  have d3' : decide (1000 < lb) = false := decide_eq_false (by omega)
  have HL3 := Lib.hid h3
  clear h1 h2 h3
  by_cases he : ek = 0
  · skip
    have hz : ((ek : Int) == 0) = true := by rw [he]; rfl
    obtain ⟨g1, g2⟩ := HB0.out he
    have CB0 : Hid (∀ w0, Calls Try.prog 7 #[.agg (mcs kk).toArray] w0 fun e w' => (∃ q c, e = .returned (.tuple #[.slice q lb c, .int .i64 0]) ∧ Bt.Own w' w0.heap.size q c b) ∧ Below w0.heap.size w0 w') := Lib.hid fun w0 => by
      have h := bytes_rt RK.out g2 (n := lb) (by rw [g1, HLB.out]) w0
      rw [g1] at h
      exact h
    have CR0 : Hid (∀ w0, Calls Try.prog 12 #[.agg (mcs kk).toArray] w0 fun e w' => e = .returned (.bool true) ∧ Below w0.heap.size w0 w') := Lib.hid fun w0 => (mright_any kk w0 RK.out).mono fun e w' h => ⟨by rw [h.1, mrB_true g2], h.2⟩
    have CS0 : Hid (∀ q c w0, Bt.Own w0 0 q c b → Below w.heap.size w w0 → Calls Try.prog 14 #[.slice q lb c, .slice p lb cap] w0 fun e w' => e = .returned (.bool true) ∧ Below w0.heap.size w0 w') := Lib.hid fun q c w0 h1 h2 => by
      have g := same_at b b q p c cap lb lb HLB.out HLB.out w0 h1.rd ⟨(HCM.out w0 h2).at_⟩ (by rw [← HLB.out]; have := HL3.out; omega) (by rw [← HLB.out]; have := HL3.out; omega)
      rw [decide_eq_true rfl] at g
      exact g
    have SK := Lib.hid (sz_msg RK.out)
    clear he g1 g2 HB0 HW0
    go_enter Try.func4, Try.ntmps4
    go_wp2_with (first
      | ((with_reducible refine at_slot 3 ?_); (refine arm_box (o := ⟨some 3, _, _, _, _, _⟩) rfl _ _ rfl (mcs m) rfl ?_); intro X v1 Xe hv1 nv1; try simp only [Act.put, List.setIfInBounds_toArray, List.set_cons_zero, List.set_cons_succ])
      | ((with_reducible refine at_slot 4 ?_); (refine arm_box (o := ⟨some 4, _, _, _, _, _⟩) rfl _ _ rfl (mcs n) rfl ?_); intro Y v2 Ye hv2 nv2; try simp only [Act.put, List.setIfInBounds_toArray, List.set_cons_zero, List.set_cons_succ]))
    have hbv1 := nv1.below
    have rrv1 : Row v1 X 42 (mcs m) := hv1
    have hbv2 := nv2.below
    have rrv2 : Row v2 Y 42 (mcs n) := hv2
    have geX : w.heap.size ≤ X := by have := Xe.out; omega
    have lXx : w.heap.size ≤ X := by have := Xe.out; omega
    clear hv1 nv1 Xe
    have bel_3 : Below w.heap.size w v1 := hbv1
    clear hbv1
    have geY : w.heap.size ≤ Y := by have := Ye.out; have := bel_3.size; omega
    have ltXY : X < Y := by have := Ye.out; have := rrv1.lt; omega
    have lYx : v1.heap.size ≤ Y := by have := Ye.out; omega
    clear hv2 nv2 Ye
    have X_4 : Row v2 X 42 (mcs m) := rrv1.old hbv2
    have bel_4 : Below w.heap.size w v2 := below_step bel_3 bel_3.size hbv2
    clear rrv1 bel_3 hbv2
    refine (CA.out _).mono ?_
    rintro e y5 ⟨rfl, hB⟩
    have X_6 : Row y5 X 42 (mcs m) := X_4.old hB
    have Y_6 : Row y5 Y 42 (mcs n) := rrv2.old hB
    have bel_6 : Below w.heap.size w y5 := below_step bel_4 bel_4.size hB
    clear X_4 rrv2 bel_4 hB
    have cnx := X_6.cell CNM.out; have cny := Y_6.cell CNN.out
    go_wp2_with fail
    refine (CD0.out _ bel_6).mono ?_
    rintro e y7 ⟨rfl, hB⟩
    have X_8 : Row y7 X 42 (mcs m) := X_6.old hB
    have Y_8 : Row y7 Y 42 (mcs n) := Y_6.old hB
    have bel_8 : Below w.heap.size w y7 := below_step bel_6 bel_6.size hB
    clear X_6 Y_6 bel_6 hB
    clear cnx cny
    go_wp2_with (first
      | ((with_reducible refine at_slot 7 ?_); (refine arm_alloc (o := ⟨some 7, _, _, _, _, _⟩) rfl _ rfl (mcs zm) z_msg ?_); intro M v9a Me hMa nM; try simp only [Act.put, List.setIfInBounds_toArray, List.set_cons_zero, List.set_cons_succ])
      | ((with_reducible refine arm_store (o := ⟨none, _, _, _, _, _⟩) rfl _ _ _ rfl M 0 rfl (mcs kk) rfl _ _ hMa (fitM RK.out) (mcs_one _) (sz_msg RK.out) ?_); intro v9 hMb oM sM; try simp only [Act.put, List.setIfInBounds_toArray, List.set_cons_zero, List.set_cons_succ]; refine Pf.pause ?_; try simp only [Act.put, List.setIfInBounds_toArray, List.set_cons_zero, List.set_cons_succ]))
    have lM : y7.heap.size ≤ M := by have := Me.out; omega
    have bM : Below y7.heap.size y7 v9 := below_only nM.below oM lM nM.below.size
    have rrM : Row v9 M 42 (mcs kk) := hMb.congr (allM RK.out)
    have geM : w.heap.size ≤ M := Nat.le_trans bel_8.size lM
    have lMx := lM
    clear hMa hMb nM oM sM Me lM
    have X_10 : Row v9 X 42 (mcs m) := X_8.old bM
    have Y_10 : Row v9 Y 42 (mcs n) := Y_8.old bM
    have bel_10 : Below w.heap.size w v9 := below_step bel_8 bel_8.size bM
    clear X_8 Y_8 bel_8 bM
    refine Pf.go_on ?_
    go_wp2_with (first
      | ((with_reducible refine at_slot 48 ?_); (refine arm_load (o := ⟨some 48, _, _, _, _, _⟩) rfl _ _ rfl M 0 rfl (mcs kk) ((Has.refl _).range rrM) SK.out ?_); try simp only [Act.put, List.setIfInBounds_toArray, List.set_cons_zero, List.set_cons_succ]))
    refine (CB0.out _).mono ?_
    rintro e y11 ⟨⟨q0, c0, rfl, hO⟩, hB⟩
    have X_12 : Row y11 X 42 (mcs m) := X_10.old hB
    have Y_12 : Row y11 Y 42 (mcs n) := Y_10.old hB
    have M_12 : Row y11 M 42 (mcs kk) := rrM.old hB
    have bel_12 : Below w.heap.size w y11 := below_step bel_10 bel_10.size hB
    clear X_10 Y_10 rrM bel_10 hB
    have hOq := own_mono hO (Nat.zero_le _); clear hO
    go_wp2_with fail
    refine (CS0.out q0 c0 _ hOq bel_12).mono ?_
    rintro e y13 ⟨rfl, hB⟩
    have X_14 : Row y13 X 42 (mcs m) := X_12.old hB
    have Y_14 : Row y13 Y 42 (mcs n) := Y_12.old hB
    have M_14 : Row y13 M 42 (mcs kk) := M_12.old hB
    have W_14 : Bt.Own y13 0 q0 c0 b := hOq.below hB
    have bel_14 : Below w.heap.size w y13 := below_step bel_12 bel_12.size hB
    clear X_12 Y_12 M_12 hOq bel_12 hB
    clear W_14
    go_wp2_with (first
      | ((with_reducible refine at_slot 61 ?_); (refine arm_want (.agg (mcs kk).toArray) 61 rfl (by kernel_rfl) (run_op_load _ _ rfl M 0 rfl (mcs kk) ((Has.refl _).range M_14) SK.out) ?_); try simp only [Act.put, List.setIfInBounds_toArray, List.set_cons_zero, List.set_cons_succ]))
    refine (CR0.out _).mono ?_
    rintro e y15 ⟨rfl, hB⟩
    have X_16 : Row y15 X 42 (mcs m) := X_14.old hB
    have Y_16 : Row y15 Y 42 (mcs n) := Y_14.old hB
    have M_16 : Row y15 M 42 (mcs kk) := M_14.old hB
    have bel_16 : Below w.heap.size w y15 := below_step bel_14 bel_14.size hB
    clear X_14 Y_14 M_14 bel_14 hB
    clear M_16
    go_wp2_with (first
      | ((with_reducible refine at_slot 69 ?_); (refine arm_load (o := ⟨some 69, _, _, _, _, _⟩) rfl _ _ rfl X 0 rfl (mcs m) ((Has.refl _).range X_16) SX.out ?_); try simp only [Act.put, List.setIfInBounds_toArray, List.set_cons_zero, List.set_cons_succ]))
    by_cases hr : MRt m
    · skip
      have CRM2 : Hid (∀ w0, Calls Try.prog 12 #[.agg (mcs m).toArray] w0 fun e w' => e = .returned (.bool true) ∧ Below w0.heap.size w0 w') := Lib.hid fun w0 => (CRM.out w0).mono fun e w' h => ⟨by rw [h.1, mrB_true hr], h.2⟩
      have HML := Lib.hid (msg_max K.out hr)
      have HMB := Lib.hid (mbB_rt hr)
      obtain ⟨xs, hxs⟩ : ∃ d, d = mbB m := ⟨_, rfl⟩
      obtain ⟨nx, hnx⟩ : ∃ d, d = (mbB m).length := ⟨_, rfl⟩
      have hx12 : 1 ≤ nx ∧ nx ≤ 397 := by rw [hnx, HMB.out]; exact HML.out
      have hx1 := hx12.1; have hx2 := hx12.2
      have HNX : Hid (nx = xs.length) := Lib.hid (by rw [hnx, hxs])
      have CBM2 : Hid (∀ w0, Calls Try.prog 7 #[.agg (mcs m).toArray] w0 fun e w' => (∃ q c, e = .returned (.tuple #[.slice q nx c, .int .i64 0]) ∧ Bt.Own w' w0.heap.size q c xs) ∧ Below w0.heap.size w0 w') := Lib.hid fun w0 => by rw [hxs]; exact bytes_rt K.out hr hnx.symm w0
      have HXL : Hid (AllLt 256 xs) := Lib.hid (by rw [hxs]; exact mbB_lt K.out)
      have CDM : Hid (∀ q c w0, Bt.Own w0 0 q c xs → Calls Try.prog 10 #[.slice q nx c] w0 fun e w' => e = .returned (.tuple #[.agg (mcs m).toArray, .int .i64 0]) ∧ Below w0.heap.size w0 w') := Lib.hid fun q c w0 h => by
        have g := read_own h HXL.out HNX.out.symm
        rw [hxs, rd_back17 K.out hr] at g
        exact g
      have HLO : Hid (AllLt 256 (xs ++ [0])) := Lib.hid (append_lt HXL.out (fun x hx => by simp at hx; omega))
      have HLL : Hid (AllLt 256 (xs.take (nx - 1))) := Lib.hid (fun x hx => HXL.out x (List.mem_of_mem_take hx))
      have HZO0 : Hid ((rdM (xs ++ [0])).2 ≠ 0) := Lib.hid (by rw [hxs, HMB.out]; exact msg_more K.out hr)
      have HZL0 : Hid ((rdM (xs.take (nx - 1))).2 ≠ 0) := Lib.hid (by rw [hxs, hnx, HMB.out]; exact msg_less K.out hr)
      have KO := Lib.hid (rdM_ok HLO.out); have KLE := Lib.hid (rdM_ok HLL.out)
      obtain ⟨mo, hmo⟩ : ∃ d, d = (rdM (xs ++ [0])).1 := ⟨_, rfl⟩
      obtain ⟨zo, hzo⟩ : ∃ d, d = (rdM (xs ++ [0])).2 := ⟨_, rfl⟩
      obtain ⟨le, hle⟩ : ∃ d, d = (rdM (xs.take (nx - 1))).1 := ⟨_, rfl⟩
      obtain ⟨zl, hzl⟩ : ∃ d, d = (rdM (xs.take (nx - 1))).2 := ⟨_, rfl⟩
      have CDO : Hid (∀ (N : Nat), N = nx + 1 → ∀ q c w0, Bt.Own w0 w.heap.size q c (xs ++ [0]) → Calls Try.prog 10 #[.slice q N c] w0 fun e w' => e = .returned (.tuple #[.agg (mcs mo).toArray, .int .i64 (zo : Int)]) ∧ Below w0.heap.size w0 w') := Lib.hid fun N hN q c w0 h => by
        rw [hmo, hzo]
        exact rd_read q c w0 (h.came HLO.out) N (by rw [List.length_append, ← HNX.out, hN]; rfl)
      have CDL : Hid (∀ (N : Nat), N = nx - 1 → ∀ q c w0, Bt.Own w0 0 q c xs → Calls Try.prog 10 #[.slice q N c] w0 fun e w' => e = .returned (.tuple #[.agg (mcs le).toArray, .int .i64 (zl : Int)]) ∧ Below w0.heap.size w0 w') := Lib.hid fun N hN q c w0 h => by
        rw [hle, hzl]
        exact rd_read q c w0 (came_less (h.came HXL.out) (by rw [← HNX.out]; omega)) N (by rw [List.length_take, ← HNX.out, hN]; omega)
      rw [← hmo] at KO
      rw [← hle] at KLE
      rw [← hzo] at HZO0
      rw [← hzl] at HZL0
      have e1 : ((zo : Int) == 0) = false := by have := HZO0.out; simp; omega
      have e2 : ((zl : Int) == 0) = false := by have := HZL0.out; simp; omega
      have e3 : decide ((600 : Int) < (nx : Int)) = false := decide_eq_false (by omega)
      have HNI : Hid ((nx : Int) - 1 = ((nx - 1 : Nat) : Int)) := Lib.hid (by omega)
      have SO := Lib.hid (sz_msg KO.out); have SL := Lib.hid (sz_msg KLE.out)
      have HMR := Lib.hid hr
      rw [← hxs] at HEQ
      clear hx12 hxs hnx hmo hzo hle hzl hr HLO HLL HZO0 HZL0 HML HMB CBM CRM HXL
      refine (CBM2.out _).mono ?_
      rintro e y17 ⟨⟨q1, c1, rfl, hO⟩, hB⟩
      have X_18 : Row y17 X 42 (mcs m) := X_16.old hB
      have Y_18 : Row y17 Y 42 (mcs n) := Y_16.old hB
      have bel_18 : Below w.heap.size w y17 := below_step bel_16 bel_16.size hB
      clear X_16 Y_16 bel_16 hB
      have hOq := own_mono hO (Nat.zero_le _); clear hO
      have HC1 : Hid (nx ≤ c1) := Lib.hid (by rw [HNX.out]; exact hOq.at.1)
      have HPN : Hid (q1 = none → nx = 0 ∧ c1 = 0) := Lib.hid (fun e => by have := own_none hOq e; have := HNX.out; omega)
      go_wp2_with (first
        | ((with_reducible refine at_slot 75 ?_); (refine arm_load (o := ⟨some 75, _, _, _, _, _⟩) rfl _ _ rfl X 0 rfl (mcs m) ((Has.refl _).range X_18) SX.out ?_); try simp only [Act.put, List.setIfInBounds_toArray, List.set_cons_zero, List.set_cons_succ]))
      refine (CRM2.out _).mono ?_
      rintro e y19 ⟨rfl, hB⟩
      have X_20 : Row y19 X 42 (mcs m) := X_18.old hB
      have Y_20 : Row y19 Y 42 (mcs n) := Y_18.old hB
      have P_20 : Bt.Own y19 0 q1 c1 xs := hOq.below hB
      have bel_20 : Below w.heap.size w y19 := below_step bel_18 bel_18.size hB
      clear X_18 Y_18 hOq bel_18 hB
      go_wp2_with (first
        | ((with_reducible refine at_slot 77 ?_); (refine arm_want (.bool false) 77 rfl (by kernel_rfl) (run_op_neqBB _ _ _ rfl true true rfl rfl false rfl _) ?_); try simp only [Act.put, List.setIfInBounds_toArray, List.set_cons_zero, List.set_cons_succ]))
      refine (CDM.out q1 c1 _ P_20).mono ?_
      rintro e y21 ⟨rfl, hB⟩
      have X_22 : Row y21 X 42 (mcs m) := X_20.old hB
      have Y_22 : Row y21 Y 42 (mcs n) := Y_20.old hB
      have P_22 : Bt.Own y21 0 q1 c1 xs := P_20.below hB
      have bel_22 : Below w.heap.size w y21 := below_step bel_20 bel_20.size hB
      clear X_20 Y_20 P_20 bel_20 hB
      go_wp2_with (first
        | ((with_reducible refine at_slot 13 ?_); (refine arm_alloc (o := ⟨some 13, _, _, _, _, _⟩) rfl _ rfl (mcs zm) z_msg ?_); intro G v23a Ge hGa nG; try simp only [Act.put, List.setIfInBounds_toArray, List.set_cons_zero, List.set_cons_succ])
        | ((with_reducible refine arm_store (o := ⟨none, _, _, _, _, _⟩) rfl _ _ _ rfl G 0 rfl (mcs m) rfl _ _ hGa (fitM K.out) (mcs_one _) (sz_msg K.out) ?_); intro v23 hGb oG sG; try simp only [Act.put, List.setIfInBounds_toArray, List.set_cons_zero, List.set_cons_succ]; refine Pf.pause ?_; try simp only [Act.put, List.setIfInBounds_toArray, List.set_cons_zero, List.set_cons_succ]))
      have lG : y21.heap.size ≤ G := by have := Ge.out; omega
      have bG : Below y21.heap.size y21 v23 := below_only nG.below oG lG nG.below.size
      have rrG : Row v23 G 42 (mcs m) := hGb.congr (allM K.out)
      have geG : w.heap.size ≤ G := Nat.le_trans bel_22.size lG
      have lGx := lG
      clear hGa hGb nG oG sG Ge lG
      have X_24 : Row v23 X 42 (mcs m) := X_22.old bG
      have Y_24 : Row v23 Y 42 (mcs n) := Y_22.old bG
      have P_24 : Bt.Own v23 0 q1 c1 xs := P_22.below bG
      have bel_24 : Below w.heap.size w v23 := below_step bel_22 bel_22.size bG
      clear X_22 Y_22 P_22 bel_22 bG
      refine Pf.go_on ?_
      go_wp2_with (first
        | ((with_reducible refine at_slot 89 ?_); (refine arm_buildSlice (o := ⟨some 89, _, _, _, _, _⟩) rfl 0 _ rfl [] #[] (by simp) bs0 ?_); intro b25 v25 b25e hv25 nv25; try simp only [Act.put, List.setIfInBounds_toArray, List.set_cons_zero, List.set_cons_succ]; refine Pf.pause ?_; try simp only [Act.put, List.setIfInBounds_toArray, List.set_cons_zero, List.set_cons_succ]))
      refine Pf.go_on ?_
      have hlo := fun i (hi : blk q1 = some i) => (own_blk P_24 hi).2.1
      have HSP : Sep (some ⟨b25, 0, none⟩) q1 := fun i h1 h2 => by have h3 : b25 = i := Option.some.inj h1; have := hlo i h2; have := b25e.out; omega
      have ob25 : Bt.Own v25 w.heap.size (some ⟨b25, 0, none⟩) 0 [] := own_new hv25 (by have := b25e.out; have := bel_24.size; omega)
      have hbv25 := nv25.below
      clear hlo hv25 nv25 b25e
      have X_26 : Row v25 X 42 (mcs m) := X_24.old hbv25
      have Y_26 : Row v25 Y 42 (mcs n) := Y_24.old hbv25
      have P_26 : Bt.Own v25 0 q1 c1 xs := P_24.below hbv25
      have G_26 : Row v25 G 42 (mcs m) := rrG.old hbv25
      have bel_26 : Below w.heap.size w v25 := below_step bel_24 bel_24.size hbv25
      clear X_24 Y_24 P_24 rrG bel_24 hbv25
      go_wp2_with (first
        | ((with_reducible refine at_slot 91 ?_); (refine arm_append2 (o := ⟨some 91, _, _, _, _, _⟩) rfl _ _ rfl w.heap.size (some ⟨b25, 0, none⟩) (0) 0 ([]) rfl rfl ob25 (q1) (nx) (c1) (xs) rfl HNX.out (HPN.out) (P_26.bytes) (by have := HNX.out; simp; omega) bel_26.size ?_); intro p27 c27 y27 hO27 hS27; try simp only [Act.put, List.setIfInBounds_toArray, List.set_cons_zero, List.set_cons_succ]; refine Pf.pause ?_; try simp only [Act.put, List.setIfInBounds_toArray, List.set_cons_zero, List.set_cons_succ]))
      refine Pf.go_on ?_
      have X_27 : Row y27 X 42 (mcs m) := step_row X_26 (by decide) ob25 hS27
      have Y_27 : Row y27 Y 42 (mcs n) := step_row Y_26 (by decide) ob25 hS27
      have P_27 : Bt.Own y27 0 q1 c1 xs := own_step P_26 hS27 HSP (fun j hj => by cases hj)
      have spP27 : Sep p27 q1 := HSP.next hS27 P_26
      have G_27 : Row y27 G 42 (mcs m) := step_row G_26 (by decide) ob25 hS27
      have bel_27 : Below w.heap.size w y27 := step_bel bel_26 bel_26.size ob25 hS27
      clear hS27 X_26 Y_26 HSP P_26 G_26 ob25 bel_26
      go_wp2_with (first
        | ((with_reducible refine at_slot 92 ?_); (refine arm_buildSlice (o := ⟨some 92, _, _, _, _, _⟩) rfl 1 _ rfl [.int .u8 0] #[(0, .int .u8 0)] (by simp [Act.eval]) (bs1 _) ?_); intro b28 v28 b28e hv28 nv28; try simp only [Act.put, List.setIfInBounds_toArray, List.set_cons_zero, List.set_cons_succ]; refine Pf.pause ?_; try simp only [Act.put, List.setIfInBounds_toArray, List.set_cons_zero, List.set_cons_succ]))
      refine Pf.go_on ?_
      have HBY : Hid ([0] ≠ [] → ∃ g go, (some ⟨b28, 0, none⟩ : Option Addr) = some ⟨g, go, none⟩ ∧ v28.rangeAt g go (u8s [0])) := Lib.hid (fun _ => ⟨b28, 0, rfl, hv28.range 0 _ (fun j v hj => by rw [Nat.zero_add]; exact hj)⟩)
      have hbv28 := nv28.below
      clear hv28 nv28 b28e
      have X_29 : Row v28 X 42 (mcs m) := X_27.old hbv28
      have Y_29 : Row v28 Y 42 (mcs n) := Y_27.old hbv28
      have P_29 : Bt.Own v28 0 q1 c1 xs := P_27.below hbv28
      have G_29 : Row v28 G 42 (mcs m) := G_27.old hbv28
      have V_29 : Bt.Own v28 w.heap.size p27 c27 ([] ++ xs) := hO27.below hbv28
      have bel_29 : Below w.heap.size w v28 := below_step bel_27 bel_27.size hbv28
      clear X_27 Y_27 P_27 G_27 hO27 bel_27 hbv28
      go_wp2_with (first
        | ((with_reducible refine at_slot 93 ?_); (refine arm_append2 (o := ⟨some 93, _, _, _, _, _⟩) rfl _ _ rfl w.heap.size p27 (0 + nx) c27 ([] ++ xs) (by have := HNX.out; simp; omega) rfl V_29 (some ⟨b28, 0, none⟩) (1) (1) ([0]) rfl rfl (fun h => by cases h) (HBY.out) (by have := HNX.out; simp; omega) bel_29.size ?_); intro p30 c30 y30 hO30 hS30; try simp only [Act.put, List.setIfInBounds_toArray, List.set_cons_zero, List.set_cons_succ]; refine Pf.pause ?_; try simp only [Act.put, List.setIfInBounds_toArray, List.set_cons_zero, List.set_cons_succ]))
      refine Pf.go_on ?_
      have X_30 : Row y30 X 42 (mcs m) := step_row X_29 (by decide) V_29 hS30
      have Y_30 : Row y30 Y 42 (mcs n) := step_row Y_29 (by decide) V_29 hS30
      have P_30 : Bt.Own y30 0 q1 c1 xs := own_step P_29 hS30 spP27 (fun j hj => by cases hj)
      have spP30 : Sep p30 q1 := spP27.next hS30 P_29
      have G_30 : Row y30 G 42 (mcs m) := step_row G_29 (by decide) V_29 hS30
      have bel_30 : Below w.heap.size w y30 := step_bel bel_29 bel_29.size V_29 hS30
      clear hS30 X_29 Y_29 spP27 P_29 G_29 V_29 bel_29
      clear HBY
      rw [List.nil_append] at hO30
      go_wp2_with fail
      refine (CDO.out _ (by omega) p30 c30 _ hO30).mono ?_
      rintro e y31 ⟨rfl, hB⟩
      have X_32 : Row y31 X 42 (mcs m) := X_30.old hB
      have Y_32 : Row y31 Y 42 (mcs n) := Y_30.old hB
      have P_32 : Bt.Own y31 0 q1 c1 xs := P_30.below hB
      have G_32 : Row y31 G 42 (mcs m) := G_30.old hB
      have V_32 : Bt.Own y31 w.heap.size p30 c30 (xs ++ [0]) := hO30.below hB
      have bel_32 : Below w.heap.size w y31 := below_step bel_30 bel_30.size hB
      clear X_30 Y_30 P_30 G_30 hO30 bel_30 hB
      clear V_32
      go_wp2_with (first
        | ((with_reducible refine at_slot 15 ?_); (refine arm_alloc (o := ⟨some 15, _, _, _, _, _⟩) rfl _ rfl (mcs zm) z_msg ?_); intro O v33a Oe hOa nO; try simp only [Act.put, List.setIfInBounds_toArray, List.set_cons_zero, List.set_cons_succ])
        | ((with_reducible refine arm_store (o := ⟨none, _, _, _, _, _⟩) rfl _ _ _ rfl O 0 rfl (mcs mo) rfl _ _ hOa (fitM KO.out) (mcs_one _) (sz_msg KO.out) ?_); intro v33 hOb oO sO; try simp only [Act.put, List.setIfInBounds_toArray, List.set_cons_zero, List.set_cons_succ]; refine Pf.pause ?_; try simp only [Act.put, List.setIfInBounds_toArray, List.set_cons_zero, List.set_cons_succ]))
      have lO : y31.heap.size ≤ O := by have := Oe.out; omega
      have bO : Below y31.heap.size y31 v33 := below_only nO.below oO lO nO.below.size
      have rrO : Row v33 O 42 (mcs mo) := hOb.congr (allM KO.out)
      have geO : w.heap.size ≤ O := Nat.le_trans bel_32.size lO
      have lOx := lO
      clear hOa hOb nO oO sO Oe lO
      have X_34 : Row v33 X 42 (mcs m) := X_32.old bO
      have Y_34 : Row v33 Y 42 (mcs n) := Y_32.old bO
      have P_34 : Bt.Own v33 0 q1 c1 xs := P_32.below bO
      have G_34 : Row v33 G 42 (mcs m) := G_32.old bO
      have bel_34 : Below w.heap.size w v33 := below_step bel_32 bel_32.size bO
      clear X_32 Y_32 P_32 G_32 bel_32 bO
      refine Pf.go_on ?_
      clear rrO
      go_wp2_with (first
        | ((with_reducible refine at_slot 102 ?_); (refine arm_headS (o := ⟨some 102, _, _, _, _, _⟩) rfl _ _ _ rfl 5 (by kernel_rfl) (by kernel_rfl) q1 nx c1 rfl .i64 _ rfl (nx - 1) HNI.out (by have := HC1.out; omega) ?_); try simp only [Act.put, List.setIfInBounds_toArray, List.set_cons_zero, List.set_cons_succ]))
      refine (CDL.out _ rfl q1 c1 _ P_34).mono ?_
      rintro e y35 ⟨rfl, hB⟩
      have X_36 : Row y35 X 42 (mcs m) := X_34.old hB
      have Y_36 : Row y35 Y 42 (mcs n) := Y_34.old hB
      have P_36 : Bt.Own y35 0 q1 c1 xs := P_34.below hB
      have G_36 : Row y35 G 42 (mcs m) := G_34.old hB
      have bel_36 : Below w.heap.size w y35 := below_step bel_34 bel_34.size hB
      clear X_34 Y_34 P_34 G_34 bel_34 hB
      go_wp2_with (first
        | ((with_reducible refine at_slot 17 ?_); (refine arm_alloc (o := ⟨some 17, _, _, _, _, _⟩) rfl _ rfl (mcs zm) z_msg ?_); intro R v37a Re hRa nR; try simp only [Act.put, List.setIfInBounds_toArray, List.set_cons_zero, List.set_cons_succ])
        | ((with_reducible refine arm_store (o := ⟨none, _, _, _, _, _⟩) rfl _ _ _ rfl R 0 rfl (mcs le) rfl _ _ hRa (fitM KLE.out) (mcs_one _) (sz_msg KLE.out) ?_); intro v37 hRb oR sR; try simp only [Act.put, List.setIfInBounds_toArray, List.set_cons_zero, List.set_cons_succ]; refine Pf.pause ?_; try simp only [Act.put, List.setIfInBounds_toArray, List.set_cons_zero, List.set_cons_succ]))
      have lR : y35.heap.size ≤ R := by have := Re.out; omega
      have bR : Below y35.heap.size y35 v37 := below_only nR.below oR lR nR.below.size
      have rrR : Row v37 R 42 (mcs le) := hRb.congr (allM KLE.out)
      have geR : w.heap.size ≤ R := Nat.le_trans bel_36.size lR
      have lRx := lR
      clear hRa hRb nR oR sR Re lR
      have X_38 : Row v37 X 42 (mcs m) := X_36.old bR
      have Y_38 : Row v37 Y 42 (mcs n) := Y_36.old bR
      have P_38 : Bt.Own v37 0 q1 c1 xs := P_36.below bR
      have G_38 : Row v37 G 42 (mcs m) := G_36.old bR
      have bel_38 : Below w.heap.size w v37 := below_step bel_36 bel_36.size bR
      clear X_36 Y_36 P_36 G_36 bel_36 bR
      refine Pf.go_on ?_
      clear rrR
      go_wp2_with (first
        | ((with_reducible refine at_slot 106 ?_); (refine arm_load (o := ⟨some 106, _, _, _, _, _⟩) rfl _ _ rfl G 0 rfl (mcs m) ((Has.refl _).range G_38) SX.out ?_); try simp only [Act.put, List.setIfInBounds_toArray, List.set_cons_zero, List.set_cons_succ])
        | ((with_reducible refine at_slot 107 ?_); (refine arm_load (o := ⟨some 107, _, _, _, _, _⟩) rfl _ _ rfl X 0 rfl (mcs m) ((Has.refl _).range X_38) SX.out ?_); try simp only [Act.put, List.setIfInBounds_toArray, List.set_cons_zero, List.set_cons_succ])
        | ((with_reducible refine at_slot 108 ?_); (refine arm_want (.bool false) 108 rfl (by kernel_rfl) (run_op_neqM K.out K.out _ _ _ rfl rfl rfl true (iff_of_true rfl rfl) _) ?_); try simp only [Act.put, List.setIfInBounds_toArray, List.set_cons_zero, List.set_cons_succ])
        | ((with_reducible refine at_slot 127 ?_); (refine arm_load (o := ⟨some 127, _, _, _, _, _⟩) rfl _ _ rfl Y 0 rfl (mcs n) ((Has.refl _).range Y_38) SY.out ?_); try simp only [Act.put, List.setIfInBounds_toArray, List.set_cons_zero, List.set_cons_succ]))
      clear G_38
      by_cases hg : MRt n
      · skip
        obtain ⟨ys, hys⟩ : ∃ d, d = mbB n := ⟨_, rfl⟩
        obtain ⟨ny, hny⟩ : ∃ d, d = (mbB n).length := ⟨_, rfl⟩
        have HNY : Hid (ny = ys.length) := Lib.hid (by rw [hny, hys])
        have CBN2 : Hid (∀ w0, Calls Try.prog 7 #[.agg (mcs n).toArray] w0 fun e w' => (∃ q c, e = .returned (.tuple #[.slice q ny c, .int .i64 0]) ∧ Bt.Own w' w0.heap.size q c ys) ∧ Below w0.heap.size w0 w') := Lib.hid fun w0 => (CBN.out w0).mono fun e w' h => ⟨by
          obtain ⟨q, c, h1, h2⟩ := h.ex
          rw [mbE_rt hg, ← hny] at h1
          rw [hys]
          exact ⟨q, c, h1, h2⟩, h.bel⟩
        obtain ⟨vb, hvb⟩ : ∃ d, d = decide (xs = ys) := ⟨_, rfl⟩
        have HVB : Hid (vb = true ↔ m = n) := Lib.hid (by rw [hvb, decide_eq_true_iff, hys]; exact HEQ.out HMR.out hg)
        have HEV : Hid ((vb == vb) = true) := Lib.hid (by simp)
        have CSM : Hid (∀ q c r d w0, Bt.Own w0 0 q c xs → Bt.Own w0 0 r d ys → Calls Try.prog 14 #[.slice q nx c, .slice r ny d] w0 fun e w' => e = .returned (.bool vb) ∧ Below w0.heap.size w0 w') := Lib.hid fun q c r d w0 h1 h2 => by rw [hvb]; exact same_at xs ys q r c d nx ny HNX.out HNY.out w0 h1.rd h2.rd (by rw [← HNX.out]; omega) (by rw [hys]; have := HNL.out; omega)
        clear hvb
        clear hys hny hg
        refine (CBN2.out _).mono ?_
        rintro e y39 ⟨⟨q2, c2, rfl, hO⟩, hB⟩
        have X_40 : Row y39 X 42 (mcs m) := X_38.old hB
        have Y_40 : Row y39 Y 42 (mcs n) := Y_38.old hB
        have P_40 : Bt.Own y39 0 q1 c1 xs := P_38.below hB
        have bel_40 : Below w.heap.size w y39 := below_step bel_38 bel_38.size hB
        clear X_38 Y_38 P_38 bel_38 hB
        have hOr := own_mono hO (Nat.zero_le _); clear hO
        go_wp2_with fail
        refine wp_region_held (S := fun w' => Row w' X 42 (mcs m) ∧ Row w' Y 42 (mcs n) ∧ True) (by kernel_rfl) ?_
        change wpAnyH _ _ _ _ _ _ _ _ y39.drew
        have hd41 : Below y39.heap.size y39 y39.drew := (Below.refl _ _).drew
        have X_42 : Row y39.drew X 42 (mcs m) := X_40.old hd41
        have Y_42 : Row y39.drew Y 42 (mcs n) := Y_40.old hd41
        have P_42 : Bt.Own y39.drew 0 q1 c1 xs := P_40.below hd41
        have Q_42 : Bt.Own y39.drew 0 q2 c2 ys := hOr.below hd41
        have bel_42 : Below w.heap.size w y39.drew := below_step bel_40 bel_40.size hd41
        clear X_40 Y_40 P_40 hOr bel_40 hd41
        generalize y39.drew = yz41 at X_42 Y_42 P_42 Q_42 bel_42 ⊢
        refine h_take 0 (.int .i64 0) rfl 131 rfl (by kernel_rfl) (by kernel_rfl) (by kernel_rfl) (by kernel_rfl) (fun _ _ _ h => h) (fun w' _ => by kernel_rfl) ⟨X_42, Y_42, trivial⟩ ?_
        simp only [Act.put, List.setIfInBounds_toArray, List.set_cons_zero, List.set_cons_succ]
        refine h_take 1 (.bool false) rfl 132 rfl (by kernel_rfl) (by kernel_rfl) (by kernel_rfl) (by kernel_rfl) (fun _ _ _ h => h) (fun w' _ => by kernel_rfl) ⟨X_42, Y_42, trivial⟩ ?_
        simp only [Act.put, List.setIfInBounds_toArray, List.set_cons_zero, List.set_cons_succ]
        refine h_take 2 (.bool false) rfl 133 rfl (by kernel_rfl) (by kernel_rfl) (by kernel_rfl) (by kernel_rfl) (fun _ _ _ h => h) (fun w' _ => by kernel_rfl) ⟨X_42, Y_42, trivial⟩ ?_
        simp only [Act.put, List.setIfInBounds_toArray, List.set_cons_zero, List.set_cons_succ]
        refine h_take 3 (.slice q1 nx c1) rfl 134 rfl (by kernel_rfl) (by kernel_rfl) (by kernel_rfl) (by kernel_rfl) (fun _ _ _ h => h) (fun w' _ => by kernel_rfl) ⟨X_42, Y_42, trivial⟩ ?_
        simp only [Act.put, List.setIfInBounds_toArray, List.set_cons_zero, List.set_cons_succ]
        refine h_take 4 (.slice q2 ny c2) rfl 135 rfl (by kernel_rfl) (by kernel_rfl) (by kernel_rfl) (by kernel_rfl) (fun _ _ _ h => h) (fun w' _ => by kernel_rfl) ⟨X_42, Y_42, trivial⟩ ?_
        simp only [Act.put, List.setIfInBounds_toArray, List.set_cons_zero, List.set_cons_succ]
        refine h_take 6 (.agg (mcs m).toArray) rfl 137 rfl (by kernel_rfl) (by kernel_rfl) (by kernel_rfl) (by kernel_rfl) (fun _ _ _ h => h) (fun w' hw => run_op_load _ _ rfl X (0) rfl (mcs m) (((Has.refl _)).range hw.1) (SX.out)) ⟨X_42, Y_42, trivial⟩ ?_
        simp only [Act.put, List.setIfInBounds_toArray, List.set_cons_zero, List.set_cons_succ]
        refine h_take 7 (.agg (mcs n).toArray) rfl 138 rfl (by kernel_rfl) (by kernel_rfl) (by kernel_rfl) (by kernel_rfl) (fun _ _ _ h => h) (fun w' hw => run_op_load _ _ rfl Y (0) rfl (mcs n) (((Has.refl _)).range hw.2.1) (SY.out)) ⟨X_42, Y_42, trivial⟩ ?_
        simp only [Act.put, List.setIfInBounds_toArray, List.set_cons_zero, List.set_cons_succ]
        refine h_take 8 (.bool vb) rfl 139 rfl (by kernel_rfl) (by kernel_rfl) (by kernel_rfl) (by kernel_rfl) (fun _ _ _ h => h) (fun w' _ => run_op_eqlM K.out J.out _ _ _ rfl rfl rfl vb HVB.out w') ⟨X_42, Y_42, trivial⟩ ?_
        simp only [Act.put, List.setIfInBounds_toArray, List.set_cons_zero, List.set_cons_succ]
        refine h_one (i := 5) (by kernel_rfl) (o_call rfl 136 rfl (by kernel_rfl) (run_op_call 14 _ _ rfl #[.slice q1 nx c1, .slice q2 ny c2] (by simp only [List.map_toArray, List.map_cons, List.map_nil]; rfl) Try.func14 (by kernel_rfl) (by kernel_rfl) _) (CSM.out _ _ _ _ _ P_42 Q_42) ?_)
        rintro e y43 ⟨rfl, hB⟩
        have X_44 : Row y43 X 42 (mcs m) := X_42.old hB
        have Y_44 : Row y43 Y 42 (mcs n) := Y_42.old hB
        have P_44 : Bt.Own y43 0 q1 c1 xs := P_42.below hB
        have Q_44 : Bt.Own y43 0 q2 c2 ys := Q_42.below hB
        have bel_44 : Below w.heap.size w y43 := below_step bel_42 bel_42.size hB
        clear X_42 Y_42 P_42 Q_42 bel_42 hB
        refine ⟨_, rfl, ⟨X_44, Y_44, trivial⟩, ?_⟩
        simp only [Act.put, List.setIfInBounds_toArray, List.set_cons_zero, List.set_cons_succ]
        refine h_take 9 (.bool true) rfl 140 rfl (by kernel_rfl) (by kernel_rfl) (by kernel_rfl) (by kernel_rfl) (fun _ _ _ h => h) (fun w' _ => run_op_eqlBB _ _ _ rfl vb vb rfl rfl true HEV.out w') ⟨X_44, Y_44, trivial⟩ ?_
        simp only [Act.put, List.setIfInBounds_toArray, List.set_cons_zero, List.set_cons_succ]
        refine h_take 10 (.bool true) rfl 141 rfl (by kernel_rfl) (by kernel_rfl) (by kernel_rfl) (by kernel_rfl) (fun _ _ _ h => h) (fun w' _ => by kernel_rfl) ⟨X_44, Y_44, trivial⟩ ?_
        simp only [Act.put, List.setIfInBounds_toArray, List.set_cons_zero, List.set_cons_succ]
        refine h_take 11 (.bool true) rfl 6 rfl (by kernel_rfl) (by kernel_rfl) (by kernel_rfl) (by kernel_rfl) (fun _ _ _ h => h) (fun w' _ => by kernel_rfl) ⟨X_44, Y_44, trivial⟩ ?_
        simp only [Act.put, List.setIfInBounds_toArray, List.set_cons_zero, List.set_cons_succ]
        refine wpAnyH_done (by kernel_rfl) ?_ _
        go_wp2_with fail
        go_ret
        exact ⟨rfl, bel_44⟩
      · skip
        obtain ⟨ys, hys⟩ : ∃ d, d = mbB n := ⟨_, rfl⟩
        obtain ⟨ny, hny⟩ : ∃ d, d = (mbB n).length := ⟨_, rfl⟩
        have HNY : Hid (ny = ys.length) := Lib.hid (by rw [hny, hys])
        have CBN2 : Hid (∀ w0, Calls Try.prog 7 #[.agg (mcs n).toArray] w0 fun e w' => (∃ q c, e = .returned (.tuple #[.slice q ny c, .int .i64 1]) ∧ Bt.Own w' w0.heap.size q c ys) ∧ Below w0.heap.size w0 w') := Lib.hid fun w0 => (CBN.out w0).mono fun e w' h => ⟨by
          obtain ⟨q, c, h1, h2⟩ := h.ex
          rw [mbE_no hg, ← hny] at h1
          rw [hys]
          exact ⟨q, c, h1, h2⟩, h.bel⟩
        clear hys hny hg
        refine (CBN2.out _).mono ?_
        rintro e y39 ⟨⟨q2, c2, rfl, hO⟩, hB⟩
        have X_40 : Row y39 X 42 (mcs m) := X_38.old hB
        have Y_40 : Row y39 Y 42 (mcs n) := Y_38.old hB
        have P_40 : Bt.Own y39 0 q1 c1 xs := P_38.below hB
        have bel_40 : Below w.heap.size w y39 := below_step bel_38 bel_38.size hB
        clear X_38 Y_38 P_38 bel_38 hB
        have hOr := own_mono hO (Nat.zero_le _); clear hO
        go_wp2_with fail
        refine wp_region_held (S := fun w' => Row w' X 42 (mcs m) ∧ Row w' Y 42 (mcs n) ∧ True) (by kernel_rfl) ?_
        change wpAnyH _ _ _ _ _ _ _ _ y39.drew
        have hd41 : Below y39.heap.size y39 y39.drew := (Below.refl _ _).drew
        have X_42 : Row y39.drew X 42 (mcs m) := X_40.old hd41
        have Y_42 : Row y39.drew Y 42 (mcs n) := Y_40.old hd41
        have P_42 : Bt.Own y39.drew 0 q1 c1 xs := P_40.below hd41
        have Q_42 : Bt.Own y39.drew 0 q2 c2 ys := hOr.below hd41
        have bel_42 : Below w.heap.size w y39.drew := below_step bel_40 bel_40.size hd41
        clear X_40 Y_40 P_40 hOr bel_40 hd41
        generalize y39.drew = yz41 at X_42 Y_42 P_42 Q_42 bel_42 ⊢
        refine h_take 0 (.int .i64 1) rfl 131 rfl (by kernel_rfl) (by kernel_rfl) (by kernel_rfl) (by kernel_rfl) (fun _ _ _ h => h) (fun w' _ => by kernel_rfl) ⟨X_42, Y_42, trivial⟩ ?_
        simp only [Act.put, List.setIfInBounds_toArray, List.set_cons_zero, List.set_cons_succ]
        refine h_take 1 (.bool true) rfl 132 rfl (by kernel_rfl) (by kernel_rfl) (by kernel_rfl) (by kernel_rfl) (fun _ _ _ h => h) (fun w' _ => by kernel_rfl) ⟨X_42, Y_42, trivial⟩ ?_
        simp only [Act.put, List.setIfInBounds_toArray, List.set_cons_zero, List.set_cons_succ]
        refine h_take 2 (.bool true) rfl 133 rfl (by kernel_rfl) (by kernel_rfl) (by kernel_rfl) (by kernel_rfl) (fun _ _ _ h => h) (fun w' _ => by kernel_rfl) ⟨X_42, Y_42, trivial⟩ ?_
        simp only [Act.put, List.setIfInBounds_toArray, List.set_cons_zero, List.set_cons_succ]
        refine h_pass 3 rfl 134 rfl (by kernel_rfl) (by kernel_rfl) (by kernel_rfl) (by kernel_rfl) (fun _ _ _ h => h) ⟨X_42, Y_42, trivial⟩ ?_
        simp only [Act.put, List.setIfInBounds_toArray, List.set_cons_zero, List.set_cons_succ]
        refine h_pass 4 rfl 135 rfl (by kernel_rfl) (by kernel_rfl) (by kernel_rfl) (by kernel_rfl) (fun _ _ _ h => h) ⟨X_42, Y_42, trivial⟩ ?_
        simp only [Act.put, List.setIfInBounds_toArray, List.set_cons_zero, List.set_cons_succ]
        refine h_pass 5 rfl 136 rfl (by kernel_rfl) (by kernel_rfl) (by kernel_rfl) (by kernel_rfl) (fun _ _ _ h => h) ⟨X_42, Y_42, trivial⟩ ?_
        simp only [Act.put, List.setIfInBounds_toArray, List.set_cons_zero, List.set_cons_succ]
        refine h_pass 6 rfl 137 rfl (by kernel_rfl) (by kernel_rfl) (by kernel_rfl) (by kernel_rfl) (fun _ _ _ h => h) ⟨X_42, Y_42, trivial⟩ ?_
        simp only [Act.put, List.setIfInBounds_toArray, List.set_cons_zero, List.set_cons_succ]
        refine h_pass 7 rfl 138 rfl (by kernel_rfl) (by kernel_rfl) (by kernel_rfl) (by kernel_rfl) (fun _ _ _ h => h) ⟨X_42, Y_42, trivial⟩ ?_
        simp only [Act.put, List.setIfInBounds_toArray, List.set_cons_zero, List.set_cons_succ]
        refine h_pass 8 rfl 139 rfl (by kernel_rfl) (by kernel_rfl) (by kernel_rfl) (by kernel_rfl) (fun _ _ _ h => h) ⟨X_42, Y_42, trivial⟩ ?_
        simp only [Act.put, List.setIfInBounds_toArray, List.set_cons_zero, List.set_cons_succ]
        refine h_pass 9 rfl 140 rfl (by kernel_rfl) (by kernel_rfl) (by kernel_rfl) (by kernel_rfl) (fun _ _ _ h => h) ⟨X_42, Y_42, trivial⟩ ?_
        simp only [Act.put, List.setIfInBounds_toArray, List.set_cons_zero, List.set_cons_succ]
        refine h_take 10 (.bool true) rfl 141 rfl (by kernel_rfl) (by kernel_rfl) (by kernel_rfl) (by kernel_rfl) (fun _ _ _ h => h) (fun w' _ => by kernel_rfl) ⟨X_42, Y_42, trivial⟩ ?_
        simp only [Act.put, List.setIfInBounds_toArray, List.set_cons_zero, List.set_cons_succ]
        refine h_take 11 (.bool true) rfl 6 rfl (by kernel_rfl) (by kernel_rfl) (by kernel_rfl) (by kernel_rfl) (fun _ _ _ h => h) (fun w' _ => by kernel_rfl) ⟨X_42, Y_42, trivial⟩ ?_
        simp only [Act.put, List.setIfInBounds_toArray, List.set_cons_zero, List.set_cons_succ]
        refine wpAnyH_done (by kernel_rfl) ?_ _
        go_wp2_with fail
        go_ret
        exact ⟨rfl, bel_42⟩
    · skip
      have CRM2 : Hid (∀ w0, Calls Try.prog 12 #[.agg (mcs m).toArray] w0 fun e w' => e = .returned (.bool false) ∧ Below w0.heap.size w0 w') := Lib.hid fun w0 => (CRM.out w0).mono fun e w' h => ⟨by rw [h.1, mrB_false hr], h.2⟩
      have CBM2 : Hid (∀ w0, Calls Try.prog 7 #[.agg (mcs m).toArray] w0 fun e w' => (∃ q c, e = .returned (.tuple #[.slice q 0 c, .int .i64 1])) ∧ Below w0.heap.size w0 w') := Lib.hid fun w0 => (CBM.out w0).mono fun e w' h => ⟨by
        obtain ⟨q, c, h1, h2⟩ := h.ex
        rw [mbE_no hr, mbB_no hr] at h1
        exact ⟨q, c, h1⟩, h.bel⟩
      clear hr
      refine (CBM2.out _).mono ?_
      rintro e y17 ⟨⟨q1, c1, rfl⟩, hB⟩
      have X_18 : Row y17 X 42 (mcs m) := X_16.old hB
      have Y_18 : Row y17 Y 42 (mcs n) := Y_16.old hB
      have bel_18 : Below w.heap.size w y17 := below_step bel_16 bel_16.size hB
      clear X_16 Y_16 bel_16 hB
      go_wp2_with (first
        | ((with_reducible refine at_slot 75 ?_); (refine arm_load (o := ⟨some 75, _, _, _, _, _⟩) rfl _ _ rfl X 0 rfl (mcs m) ((Has.refl _).range X_18) SX.out ?_); try simp only [Act.put, List.setIfInBounds_toArray, List.set_cons_zero, List.set_cons_succ]))
      refine (CRM2.out _).mono ?_
      rintro e y19 ⟨rfl, hB⟩
      have X_20 : Row y19 X 42 (mcs m) := X_18.old hB
      have Y_20 : Row y19 Y 42 (mcs n) := Y_18.old hB
      have bel_20 : Below w.heap.size w y19 := below_step bel_18 bel_18.size hB
      clear X_18 Y_18 bel_18 hB
      go_wp2_with (first
        | ((with_reducible refine at_slot 77 ?_); (refine arm_want (.bool false) 77 rfl (by kernel_rfl) (run_op_neqBB _ _ _ rfl false false rfl rfl false rfl _) ?_); try simp only [Act.put, List.setIfInBounds_toArray, List.set_cons_zero, List.set_cons_succ]))
      go_ret
      exact ⟨rfl, bel_20⟩
  · skip
    have hz : ((ek : Int) == 0) = false := by simp; omega
    have HKZ := Lib.hid (HW0.out he)
    have SK := Lib.hid (sz_msg RK.out); have SZ := Lib.hid (sz_msg zm_ok)
    clear he HB0 HW0
    go_enter Try.func4, Try.ntmps4
    go_wp2_with (first
      | ((with_reducible refine at_slot 3 ?_); (refine arm_box (o := ⟨some 3, _, _, _, _, _⟩) rfl _ _ rfl (mcs m) rfl ?_); intro X v1 Xe hv1 nv1; try simp only [Act.put, List.setIfInBounds_toArray, List.set_cons_zero, List.set_cons_succ])
      | ((with_reducible refine at_slot 4 ?_); (refine arm_box (o := ⟨some 4, _, _, _, _, _⟩) rfl _ _ rfl (mcs n) rfl ?_); intro Y v2 Ye hv2 nv2; try simp only [Act.put, List.setIfInBounds_toArray, List.set_cons_zero, List.set_cons_succ]))
    have hbv1 := nv1.below
    have rrv1 : Row v1 X 42 (mcs m) := hv1
    have hbv2 := nv2.below
    have rrv2 : Row v2 Y 42 (mcs n) := hv2
    have geX : w.heap.size ≤ X := by have := Xe.out; omega
    have lXx : w.heap.size ≤ X := by have := Xe.out; omega
    clear hv1 nv1 Xe
    have bel_3 : Below w.heap.size w v1 := hbv1
    clear hbv1
    have geY : w.heap.size ≤ Y := by have := Ye.out; have := bel_3.size; omega
    have ltXY : X < Y := by have := Ye.out; have := rrv1.lt; omega
    have lYx : v1.heap.size ≤ Y := by have := Ye.out; omega
    clear hv2 nv2 Ye
    have X_4 : Row v2 X 42 (mcs m) := rrv1.old hbv2
    have bel_4 : Below w.heap.size w v2 := below_step bel_3 bel_3.size hbv2
    clear rrv1 bel_3 hbv2
    refine (CA.out _).mono ?_
    rintro e y5 ⟨rfl, hB⟩
    have X_6 : Row y5 X 42 (mcs m) := X_4.old hB
    have Y_6 : Row y5 Y 42 (mcs n) := rrv2.old hB
    have bel_6 : Below w.heap.size w y5 := below_step bel_4 bel_4.size hB
    clear X_4 rrv2 bel_4 hB
    have cnx := X_6.cell CNM.out; have cny := Y_6.cell CNN.out
    go_wp2_with fail
    refine (CD0.out _ bel_6).mono ?_
    rintro e y7 ⟨rfl, hB⟩
    have X_8 : Row y7 X 42 (mcs m) := X_6.old hB
    have Y_8 : Row y7 Y 42 (mcs n) := Y_6.old hB
    have bel_8 : Below w.heap.size w y7 := below_step bel_6 bel_6.size hB
    clear X_6 Y_6 bel_6 hB
    clear cnx cny
    go_wp2_with (first
      | ((with_reducible refine at_slot 7 ?_); (refine arm_alloc (o := ⟨some 7, _, _, _, _, _⟩) rfl _ rfl (mcs zm) z_msg ?_); intro M v9a Me hMa nM; try simp only [Act.put, List.setIfInBounds_toArray, List.set_cons_zero, List.set_cons_succ])
      | ((with_reducible refine arm_store (o := ⟨none, _, _, _, _, _⟩) rfl _ _ _ rfl M 0 rfl (mcs kk) rfl _ _ hMa (fitM RK.out) (mcs_one _) (sz_msg RK.out) ?_); intro v9 hMb oM sM; try simp only [Act.put, List.setIfInBounds_toArray, List.set_cons_zero, List.set_cons_succ]; refine Pf.pause ?_; try simp only [Act.put, List.setIfInBounds_toArray, List.set_cons_zero, List.set_cons_succ]))
    have lM : y7.heap.size ≤ M := by have := Me.out; omega
    have bM : Below y7.heap.size y7 v9 := below_only nM.below oM lM nM.below.size
    have rrM : Row v9 M 42 (mcs kk) := hMb.congr (allM RK.out)
    have geM : w.heap.size ≤ M := Nat.le_trans bel_8.size lM
    have lMx := lM
    clear hMa hMb nM oM sM Me lM
    have X_10 : Row v9 X 42 (mcs m) := X_8.old bM
    have Y_10 : Row v9 Y 42 (mcs n) := Y_8.old bM
    have bel_10 : Below w.heap.size w v9 := below_step bel_8 bel_8.size bM
    clear X_8 Y_8 bel_8 bM
    refine Pf.go_on ?_
    go_wp2_with (first
      | ((with_reducible refine at_slot 65 ?_); (refine arm_load (o := ⟨some 65, _, _, _, _, _⟩) rfl _ _ rfl M 0 rfl (mcs kk) ((Has.refl _).range rrM) SK.out ?_); try simp only [Act.put, List.setIfInBounds_toArray, List.set_cons_zero, List.set_cons_succ])
      | ((with_reducible refine at_slot 66 ?_); (refine arm_build (o := ⟨some 66, _, _, _, _, _⟩) rfl _ _ rfl (mcs zm) (by simp only [List.map_toArray, List.map_nil]; exact built_m0) ?_); try simp only [Act.put, List.setIfInBounds_toArray, List.set_cons_zero, List.set_cons_succ])
      | ((with_reducible refine at_slot 67 ?_); (refine arm_want (.bool false) 67 rfl (by kernel_rfl) (run_op_neqM RK.out zm_ok _ _ _ rfl rfl rfl true (iff_of_true rfl HKZ.out) _) ?_); try simp only [Act.put, List.setIfInBounds_toArray, List.set_cons_zero, List.set_cons_succ])
      | ((with_reducible refine at_slot 69 ?_); (refine arm_load (o := ⟨some 69, _, _, _, _, _⟩) rfl _ _ rfl X 0 rfl (mcs m) ((Has.refl _).range X_10) SX.out ?_); try simp only [Act.put, List.setIfInBounds_toArray, List.set_cons_zero, List.set_cons_succ]))
    clear rrM
    by_cases hr : MRt m
    · skip
      have CRM2 : Hid (∀ w0, Calls Try.prog 12 #[.agg (mcs m).toArray] w0 fun e w' => e = .returned (.bool true) ∧ Below w0.heap.size w0 w') := Lib.hid fun w0 => (CRM.out w0).mono fun e w' h => ⟨by rw [h.1, mrB_true hr], h.2⟩
      have HML := Lib.hid (msg_max K.out hr)
      have HMB := Lib.hid (mbB_rt hr)
      obtain ⟨xs, hxs⟩ : ∃ d, d = mbB m := ⟨_, rfl⟩
      obtain ⟨nx, hnx⟩ : ∃ d, d = (mbB m).length := ⟨_, rfl⟩
      have hx12 : 1 ≤ nx ∧ nx ≤ 397 := by rw [hnx, HMB.out]; exact HML.out
      have hx1 := hx12.1; have hx2 := hx12.2
      have HNX : Hid (nx = xs.length) := Lib.hid (by rw [hnx, hxs])
      have CBM2 : Hid (∀ w0, Calls Try.prog 7 #[.agg (mcs m).toArray] w0 fun e w' => (∃ q c, e = .returned (.tuple #[.slice q nx c, .int .i64 0]) ∧ Bt.Own w' w0.heap.size q c xs) ∧ Below w0.heap.size w0 w') := Lib.hid fun w0 => by rw [hxs]; exact bytes_rt K.out hr hnx.symm w0
      have HXL : Hid (AllLt 256 xs) := Lib.hid (by rw [hxs]; exact mbB_lt K.out)
      have CDM : Hid (∀ q c w0, Bt.Own w0 0 q c xs → Calls Try.prog 10 #[.slice q nx c] w0 fun e w' => e = .returned (.tuple #[.agg (mcs m).toArray, .int .i64 0]) ∧ Below w0.heap.size w0 w') := Lib.hid fun q c w0 h => by
        have g := read_own h HXL.out HNX.out.symm
        rw [hxs, rd_back17 K.out hr] at g
        exact g
      have HLO : Hid (AllLt 256 (xs ++ [0])) := Lib.hid (append_lt HXL.out (fun x hx => by simp at hx; omega))
      have HLL : Hid (AllLt 256 (xs.take (nx - 1))) := Lib.hid (fun x hx => HXL.out x (List.mem_of_mem_take hx))
      have HZO0 : Hid ((rdM (xs ++ [0])).2 ≠ 0) := Lib.hid (by rw [hxs, HMB.out]; exact msg_more K.out hr)
      have HZL0 : Hid ((rdM (xs.take (nx - 1))).2 ≠ 0) := Lib.hid (by rw [hxs, hnx, HMB.out]; exact msg_less K.out hr)
      have KO := Lib.hid (rdM_ok HLO.out); have KLE := Lib.hid (rdM_ok HLL.out)
      obtain ⟨mo, hmo⟩ : ∃ d, d = (rdM (xs ++ [0])).1 := ⟨_, rfl⟩
      obtain ⟨zo, hzo⟩ : ∃ d, d = (rdM (xs ++ [0])).2 := ⟨_, rfl⟩
      obtain ⟨le, hle⟩ : ∃ d, d = (rdM (xs.take (nx - 1))).1 := ⟨_, rfl⟩
      obtain ⟨zl, hzl⟩ : ∃ d, d = (rdM (xs.take (nx - 1))).2 := ⟨_, rfl⟩
      have CDO : Hid (∀ (N : Nat), N = nx + 1 → ∀ q c w0, Bt.Own w0 w.heap.size q c (xs ++ [0]) → Calls Try.prog 10 #[.slice q N c] w0 fun e w' => e = .returned (.tuple #[.agg (mcs mo).toArray, .int .i64 (zo : Int)]) ∧ Below w0.heap.size w0 w') := Lib.hid fun N hN q c w0 h => by
        rw [hmo, hzo]
        exact rd_read q c w0 (h.came HLO.out) N (by rw [List.length_append, ← HNX.out, hN]; rfl)
      have CDL : Hid (∀ (N : Nat), N = nx - 1 → ∀ q c w0, Bt.Own w0 0 q c xs → Calls Try.prog 10 #[.slice q N c] w0 fun e w' => e = .returned (.tuple #[.agg (mcs le).toArray, .int .i64 (zl : Int)]) ∧ Below w0.heap.size w0 w') := Lib.hid fun N hN q c w0 h => by
        rw [hle, hzl]
        exact rd_read q c w0 (came_less (h.came HXL.out) (by rw [← HNX.out]; omega)) N (by rw [List.length_take, ← HNX.out, hN]; omega)
      rw [← hmo] at KO
      rw [← hle] at KLE
      rw [← hzo] at HZO0
      rw [← hzl] at HZL0
      have e1 : ((zo : Int) == 0) = false := by have := HZO0.out; simp; omega
      have e2 : ((zl : Int) == 0) = false := by have := HZL0.out; simp; omega
      have e3 : decide ((600 : Int) < (nx : Int)) = false := decide_eq_false (by omega)
      have HNI : Hid ((nx : Int) - 1 = ((nx - 1 : Nat) : Int)) := Lib.hid (by omega)
      have SO := Lib.hid (sz_msg KO.out); have SL := Lib.hid (sz_msg KLE.out)
      have HMR := Lib.hid hr
      rw [← hxs] at HEQ
      clear hx12 hxs hnx hmo hzo hle hzl hr HLO HLL HZO0 HZL0 HML HMB CBM CRM HXL
      refine (CBM2.out _).mono ?_
      rintro e y11 ⟨⟨q1, c1, rfl, hO⟩, hB⟩
      have X_12 : Row y11 X 42 (mcs m) := X_10.old hB
      have Y_12 : Row y11 Y 42 (mcs n) := Y_10.old hB
      have bel_12 : Below w.heap.size w y11 := below_step bel_10 bel_10.size hB
      clear X_10 Y_10 bel_10 hB
      have hOq := own_mono hO (Nat.zero_le _); clear hO
      have HC1 : Hid (nx ≤ c1) := Lib.hid (by rw [HNX.out]; exact hOq.at.1)
      have HPN : Hid (q1 = none → nx = 0 ∧ c1 = 0) := Lib.hid (fun e => by have := own_none hOq e; have := HNX.out; omega)
      go_wp2_with (first
        | ((with_reducible refine at_slot 75 ?_); (refine arm_load (o := ⟨some 75, _, _, _, _, _⟩) rfl _ _ rfl X 0 rfl (mcs m) ((Has.refl _).range X_12) SX.out ?_); try simp only [Act.put, List.setIfInBounds_toArray, List.set_cons_zero, List.set_cons_succ]))
      refine (CRM2.out _).mono ?_
      rintro e y13 ⟨rfl, hB⟩
      have X_14 : Row y13 X 42 (mcs m) := X_12.old hB
      have Y_14 : Row y13 Y 42 (mcs n) := Y_12.old hB
      have P_14 : Bt.Own y13 0 q1 c1 xs := hOq.below hB
      have bel_14 : Below w.heap.size w y13 := below_step bel_12 bel_12.size hB
      clear X_12 Y_12 hOq bel_12 hB
      go_wp2_with (first
        | ((with_reducible refine at_slot 77 ?_); (refine arm_want (.bool false) 77 rfl (by kernel_rfl) (run_op_neqBB _ _ _ rfl true true rfl rfl false rfl _) ?_); try simp only [Act.put, List.setIfInBounds_toArray, List.set_cons_zero, List.set_cons_succ]))
      refine (CDM.out q1 c1 _ P_14).mono ?_
      rintro e y15 ⟨rfl, hB⟩
      have X_16 : Row y15 X 42 (mcs m) := X_14.old hB
      have Y_16 : Row y15 Y 42 (mcs n) := Y_14.old hB
      have P_16 : Bt.Own y15 0 q1 c1 xs := P_14.below hB
      have bel_16 : Below w.heap.size w y15 := below_step bel_14 bel_14.size hB
      clear X_14 Y_14 P_14 bel_14 hB
      go_wp2_with (first
        | ((with_reducible refine at_slot 13 ?_); (refine arm_alloc (o := ⟨some 13, _, _, _, _, _⟩) rfl _ rfl (mcs zm) z_msg ?_); intro G v17a Ge hGa nG; try simp only [Act.put, List.setIfInBounds_toArray, List.set_cons_zero, List.set_cons_succ])
        | ((with_reducible refine arm_store (o := ⟨none, _, _, _, _, _⟩) rfl _ _ _ rfl G 0 rfl (mcs m) rfl _ _ hGa (fitM K.out) (mcs_one _) (sz_msg K.out) ?_); intro v17 hGb oG sG; try simp only [Act.put, List.setIfInBounds_toArray, List.set_cons_zero, List.set_cons_succ]; refine Pf.pause ?_; try simp only [Act.put, List.setIfInBounds_toArray, List.set_cons_zero, List.set_cons_succ]))
      have lG : y15.heap.size ≤ G := by have := Ge.out; omega
      have bG : Below y15.heap.size y15 v17 := below_only nG.below oG lG nG.below.size
      have rrG : Row v17 G 42 (mcs m) := hGb.congr (allM K.out)
      have geG : w.heap.size ≤ G := Nat.le_trans bel_16.size lG
      have lGx := lG
      clear hGa hGb nG oG sG Ge lG
      have X_18 : Row v17 X 42 (mcs m) := X_16.old bG
      have Y_18 : Row v17 Y 42 (mcs n) := Y_16.old bG
      have P_18 : Bt.Own v17 0 q1 c1 xs := P_16.below bG
      have bel_18 : Below w.heap.size w v17 := below_step bel_16 bel_16.size bG
      clear X_16 Y_16 P_16 bel_16 bG
      refine Pf.go_on ?_
      go_wp2_with (first
        | ((with_reducible refine at_slot 89 ?_); (refine arm_buildSlice (o := ⟨some 89, _, _, _, _, _⟩) rfl 0 _ rfl [] #[] (by simp) bs0 ?_); intro b19 v19 b19e hv19 nv19; try simp only [Act.put, List.setIfInBounds_toArray, List.set_cons_zero, List.set_cons_succ]; refine Pf.pause ?_; try simp only [Act.put, List.setIfInBounds_toArray, List.set_cons_zero, List.set_cons_succ]))
      refine Pf.go_on ?_
      have hlo := fun i (hi : blk q1 = some i) => (own_blk P_18 hi).2.1
      have HSP : Sep (some ⟨b19, 0, none⟩) q1 := fun i h1 h2 => by have h3 : b19 = i := Option.some.inj h1; have := hlo i h2; have := b19e.out; omega
      have ob19 : Bt.Own v19 w.heap.size (some ⟨b19, 0, none⟩) 0 [] := own_new hv19 (by have := b19e.out; have := bel_18.size; omega)
      have hbv19 := nv19.below
      clear hlo hv19 nv19 b19e
      have X_20 : Row v19 X 42 (mcs m) := X_18.old hbv19
      have Y_20 : Row v19 Y 42 (mcs n) := Y_18.old hbv19
      have P_20 : Bt.Own v19 0 q1 c1 xs := P_18.below hbv19
      have G_20 : Row v19 G 42 (mcs m) := rrG.old hbv19
      have bel_20 : Below w.heap.size w v19 := below_step bel_18 bel_18.size hbv19
      clear X_18 Y_18 P_18 rrG bel_18 hbv19
      go_wp2_with (first
        | ((with_reducible refine at_slot 91 ?_); (refine arm_append2 (o := ⟨some 91, _, _, _, _, _⟩) rfl _ _ rfl w.heap.size (some ⟨b19, 0, none⟩) (0) 0 ([]) rfl rfl ob19 (q1) (nx) (c1) (xs) rfl HNX.out (HPN.out) (P_20.bytes) (by have := HNX.out; simp; omega) bel_20.size ?_); intro p21 c21 y21 hO21 hS21; try simp only [Act.put, List.setIfInBounds_toArray, List.set_cons_zero, List.set_cons_succ]; refine Pf.pause ?_; try simp only [Act.put, List.setIfInBounds_toArray, List.set_cons_zero, List.set_cons_succ]))
      refine Pf.go_on ?_
      have X_21 : Row y21 X 42 (mcs m) := step_row X_20 (by decide) ob19 hS21
      have Y_21 : Row y21 Y 42 (mcs n) := step_row Y_20 (by decide) ob19 hS21
      have P_21 : Bt.Own y21 0 q1 c1 xs := own_step P_20 hS21 HSP (fun j hj => by cases hj)
      have spP21 : Sep p21 q1 := HSP.next hS21 P_20
      have G_21 : Row y21 G 42 (mcs m) := step_row G_20 (by decide) ob19 hS21
      have bel_21 : Below w.heap.size w y21 := step_bel bel_20 bel_20.size ob19 hS21
      clear hS21 X_20 Y_20 HSP P_20 G_20 ob19 bel_20
      go_wp2_with (first
        | ((with_reducible refine at_slot 92 ?_); (refine arm_buildSlice (o := ⟨some 92, _, _, _, _, _⟩) rfl 1 _ rfl [.int .u8 0] #[(0, .int .u8 0)] (by simp [Act.eval]) (bs1 _) ?_); intro b22 v22 b22e hv22 nv22; try simp only [Act.put, List.setIfInBounds_toArray, List.set_cons_zero, List.set_cons_succ]; refine Pf.pause ?_; try simp only [Act.put, List.setIfInBounds_toArray, List.set_cons_zero, List.set_cons_succ]))
      refine Pf.go_on ?_
      have HBY : Hid ([0] ≠ [] → ∃ g go, (some ⟨b22, 0, none⟩ : Option Addr) = some ⟨g, go, none⟩ ∧ v22.rangeAt g go (u8s [0])) := Lib.hid (fun _ => ⟨b22, 0, rfl, hv22.range 0 _ (fun j v hj => by rw [Nat.zero_add]; exact hj)⟩)
      have hbv22 := nv22.below
      clear hv22 nv22 b22e
      have X_23 : Row v22 X 42 (mcs m) := X_21.old hbv22
      have Y_23 : Row v22 Y 42 (mcs n) := Y_21.old hbv22
      have P_23 : Bt.Own v22 0 q1 c1 xs := P_21.below hbv22
      have G_23 : Row v22 G 42 (mcs m) := G_21.old hbv22
      have V_23 : Bt.Own v22 w.heap.size p21 c21 ([] ++ xs) := hO21.below hbv22
      have bel_23 : Below w.heap.size w v22 := below_step bel_21 bel_21.size hbv22
      clear X_21 Y_21 P_21 G_21 hO21 bel_21 hbv22
      go_wp2_with (first
        | ((with_reducible refine at_slot 93 ?_); (refine arm_append2 (o := ⟨some 93, _, _, _, _, _⟩) rfl _ _ rfl w.heap.size p21 (0 + nx) c21 ([] ++ xs) (by have := HNX.out; simp; omega) rfl V_23 (some ⟨b22, 0, none⟩) (1) (1) ([0]) rfl rfl (fun h => by cases h) (HBY.out) (by have := HNX.out; simp; omega) bel_23.size ?_); intro p24 c24 y24 hO24 hS24; try simp only [Act.put, List.setIfInBounds_toArray, List.set_cons_zero, List.set_cons_succ]; refine Pf.pause ?_; try simp only [Act.put, List.setIfInBounds_toArray, List.set_cons_zero, List.set_cons_succ]))
      refine Pf.go_on ?_
      have X_24 : Row y24 X 42 (mcs m) := step_row X_23 (by decide) V_23 hS24
      have Y_24 : Row y24 Y 42 (mcs n) := step_row Y_23 (by decide) V_23 hS24
      have P_24 : Bt.Own y24 0 q1 c1 xs := own_step P_23 hS24 spP21 (fun j hj => by cases hj)
      have spP24 : Sep p24 q1 := spP21.next hS24 P_23
      have G_24 : Row y24 G 42 (mcs m) := step_row G_23 (by decide) V_23 hS24
      have bel_24 : Below w.heap.size w y24 := step_bel bel_23 bel_23.size V_23 hS24
      clear hS24 X_23 Y_23 spP21 P_23 G_23 V_23 bel_23
      clear HBY
      rw [List.nil_append] at hO24
      go_wp2_with fail
      refine (CDO.out _ (by omega) p24 c24 _ hO24).mono ?_
      rintro e y25 ⟨rfl, hB⟩
      have X_26 : Row y25 X 42 (mcs m) := X_24.old hB
      have Y_26 : Row y25 Y 42 (mcs n) := Y_24.old hB
      have P_26 : Bt.Own y25 0 q1 c1 xs := P_24.below hB
      have G_26 : Row y25 G 42 (mcs m) := G_24.old hB
      have V_26 : Bt.Own y25 w.heap.size p24 c24 (xs ++ [0]) := hO24.below hB
      have bel_26 : Below w.heap.size w y25 := below_step bel_24 bel_24.size hB
      clear X_24 Y_24 P_24 G_24 hO24 bel_24 hB
      clear V_26
      go_wp2_with (first
        | ((with_reducible refine at_slot 15 ?_); (refine arm_alloc (o := ⟨some 15, _, _, _, _, _⟩) rfl _ rfl (mcs zm) z_msg ?_); intro O v27a Oe hOa nO; try simp only [Act.put, List.setIfInBounds_toArray, List.set_cons_zero, List.set_cons_succ])
        | ((with_reducible refine arm_store (o := ⟨none, _, _, _, _, _⟩) rfl _ _ _ rfl O 0 rfl (mcs mo) rfl _ _ hOa (fitM KO.out) (mcs_one _) (sz_msg KO.out) ?_); intro v27 hOb oO sO; try simp only [Act.put, List.setIfInBounds_toArray, List.set_cons_zero, List.set_cons_succ]; refine Pf.pause ?_; try simp only [Act.put, List.setIfInBounds_toArray, List.set_cons_zero, List.set_cons_succ]))
      have lO : y25.heap.size ≤ O := by have := Oe.out; omega
      have bO : Below y25.heap.size y25 v27 := below_only nO.below oO lO nO.below.size
      have rrO : Row v27 O 42 (mcs mo) := hOb.congr (allM KO.out)
      have geO : w.heap.size ≤ O := Nat.le_trans bel_26.size lO
      have lOx := lO
      clear hOa hOb nO oO sO Oe lO
      have X_28 : Row v27 X 42 (mcs m) := X_26.old bO
      have Y_28 : Row v27 Y 42 (mcs n) := Y_26.old bO
      have P_28 : Bt.Own v27 0 q1 c1 xs := P_26.below bO
      have G_28 : Row v27 G 42 (mcs m) := G_26.old bO
      have bel_28 : Below w.heap.size w v27 := below_step bel_26 bel_26.size bO
      clear X_26 Y_26 P_26 G_26 bel_26 bO
      refine Pf.go_on ?_
      clear rrO
      go_wp2_with (first
        | ((with_reducible refine at_slot 102 ?_); (refine arm_headS (o := ⟨some 102, _, _, _, _, _⟩) rfl _ _ _ rfl 5 (by kernel_rfl) (by kernel_rfl) q1 nx c1 rfl .i64 _ rfl (nx - 1) HNI.out (by have := HC1.out; omega) ?_); try simp only [Act.put, List.setIfInBounds_toArray, List.set_cons_zero, List.set_cons_succ]))
      refine (CDL.out _ rfl q1 c1 _ P_28).mono ?_
      rintro e y29 ⟨rfl, hB⟩
      have X_30 : Row y29 X 42 (mcs m) := X_28.old hB
      have Y_30 : Row y29 Y 42 (mcs n) := Y_28.old hB
      have P_30 : Bt.Own y29 0 q1 c1 xs := P_28.below hB
      have G_30 : Row y29 G 42 (mcs m) := G_28.old hB
      have bel_30 : Below w.heap.size w y29 := below_step bel_28 bel_28.size hB
      clear X_28 Y_28 P_28 G_28 bel_28 hB
      go_wp2_with (first
        | ((with_reducible refine at_slot 17 ?_); (refine arm_alloc (o := ⟨some 17, _, _, _, _, _⟩) rfl _ rfl (mcs zm) z_msg ?_); intro R v31a Re hRa nR; try simp only [Act.put, List.setIfInBounds_toArray, List.set_cons_zero, List.set_cons_succ])
        | ((with_reducible refine arm_store (o := ⟨none, _, _, _, _, _⟩) rfl _ _ _ rfl R 0 rfl (mcs le) rfl _ _ hRa (fitM KLE.out) (mcs_one _) (sz_msg KLE.out) ?_); intro v31 hRb oR sR; try simp only [Act.put, List.setIfInBounds_toArray, List.set_cons_zero, List.set_cons_succ]; refine Pf.pause ?_; try simp only [Act.put, List.setIfInBounds_toArray, List.set_cons_zero, List.set_cons_succ]))
      have lR : y29.heap.size ≤ R := by have := Re.out; omega
      have bR : Below y29.heap.size y29 v31 := below_only nR.below oR lR nR.below.size
      have rrR : Row v31 R 42 (mcs le) := hRb.congr (allM KLE.out)
      have geR : w.heap.size ≤ R := Nat.le_trans bel_30.size lR
      have lRx := lR
      clear hRa hRb nR oR sR Re lR
      have X_32 : Row v31 X 42 (mcs m) := X_30.old bR
      have Y_32 : Row v31 Y 42 (mcs n) := Y_30.old bR
      have P_32 : Bt.Own v31 0 q1 c1 xs := P_30.below bR
      have G_32 : Row v31 G 42 (mcs m) := G_30.old bR
      have bel_32 : Below w.heap.size w v31 := below_step bel_30 bel_30.size bR
      clear X_30 Y_30 P_30 G_30 bel_30 bR
      refine Pf.go_on ?_
      clear rrR
      go_wp2_with (first
        | ((with_reducible refine at_slot 106 ?_); (refine arm_load (o := ⟨some 106, _, _, _, _, _⟩) rfl _ _ rfl G 0 rfl (mcs m) ((Has.refl _).range G_32) SX.out ?_); try simp only [Act.put, List.setIfInBounds_toArray, List.set_cons_zero, List.set_cons_succ])
        | ((with_reducible refine at_slot 107 ?_); (refine arm_load (o := ⟨some 107, _, _, _, _, _⟩) rfl _ _ rfl X 0 rfl (mcs m) ((Has.refl _).range X_32) SX.out ?_); try simp only [Act.put, List.setIfInBounds_toArray, List.set_cons_zero, List.set_cons_succ])
        | ((with_reducible refine at_slot 108 ?_); (refine arm_want (.bool false) 108 rfl (by kernel_rfl) (run_op_neqM K.out K.out _ _ _ rfl rfl rfl true (iff_of_true rfl rfl) _) ?_); try simp only [Act.put, List.setIfInBounds_toArray, List.set_cons_zero, List.set_cons_succ])
        | ((with_reducible refine at_slot 127 ?_); (refine arm_load (o := ⟨some 127, _, _, _, _, _⟩) rfl _ _ rfl Y 0 rfl (mcs n) ((Has.refl _).range Y_32) SY.out ?_); try simp only [Act.put, List.setIfInBounds_toArray, List.set_cons_zero, List.set_cons_succ]))
      clear G_32
      by_cases hg : MRt n
      · skip
        obtain ⟨ys, hys⟩ : ∃ d, d = mbB n := ⟨_, rfl⟩
        obtain ⟨ny, hny⟩ : ∃ d, d = (mbB n).length := ⟨_, rfl⟩
        have HNY : Hid (ny = ys.length) := Lib.hid (by rw [hny, hys])
        have CBN2 : Hid (∀ w0, Calls Try.prog 7 #[.agg (mcs n).toArray] w0 fun e w' => (∃ q c, e = .returned (.tuple #[.slice q ny c, .int .i64 0]) ∧ Bt.Own w' w0.heap.size q c ys) ∧ Below w0.heap.size w0 w') := Lib.hid fun w0 => (CBN.out w0).mono fun e w' h => ⟨by
          obtain ⟨q, c, h1, h2⟩ := h.ex
          rw [mbE_rt hg, ← hny] at h1
          rw [hys]
          exact ⟨q, c, h1, h2⟩, h.bel⟩
        obtain ⟨vb, hvb⟩ : ∃ d, d = decide (xs = ys) := ⟨_, rfl⟩
        have HVB : Hid (vb = true ↔ m = n) := Lib.hid (by rw [hvb, decide_eq_true_iff, hys]; exact HEQ.out HMR.out hg)
        have HEV : Hid ((vb == vb) = true) := Lib.hid (by simp)
        have CSM : Hid (∀ q c r d w0, Bt.Own w0 0 q c xs → Bt.Own w0 0 r d ys → Calls Try.prog 14 #[.slice q nx c, .slice r ny d] w0 fun e w' => e = .returned (.bool vb) ∧ Below w0.heap.size w0 w') := Lib.hid fun q c r d w0 h1 h2 => by rw [hvb]; exact same_at xs ys q r c d nx ny HNX.out HNY.out w0 h1.rd h2.rd (by rw [← HNX.out]; omega) (by rw [hys]; have := HNL.out; omega)
        clear hvb
        clear hys hny hg
        refine (CBN2.out _).mono ?_
        rintro e y33 ⟨⟨q2, c2, rfl, hO⟩, hB⟩
        have X_34 : Row y33 X 42 (mcs m) := X_32.old hB
        have Y_34 : Row y33 Y 42 (mcs n) := Y_32.old hB
        have P_34 : Bt.Own y33 0 q1 c1 xs := P_32.below hB
        have bel_34 : Below w.heap.size w y33 := below_step bel_32 bel_32.size hB
        clear X_32 Y_32 P_32 bel_32 hB
        have hOr := own_mono hO (Nat.zero_le _); clear hO
        go_wp2_with fail
        refine wp_region_held (S := fun w' => Row w' X 42 (mcs m) ∧ Row w' Y 42 (mcs n) ∧ True) (by kernel_rfl) ?_
        change wpAnyH _ _ _ _ _ _ _ _ y33.drew
        have hd35 : Below y33.heap.size y33 y33.drew := (Below.refl _ _).drew
        have X_36 : Row y33.drew X 42 (mcs m) := X_34.old hd35
        have Y_36 : Row y33.drew Y 42 (mcs n) := Y_34.old hd35
        have P_36 : Bt.Own y33.drew 0 q1 c1 xs := P_34.below hd35
        have Q_36 : Bt.Own y33.drew 0 q2 c2 ys := hOr.below hd35
        have bel_36 : Below w.heap.size w y33.drew := below_step bel_34 bel_34.size hd35
        clear X_34 Y_34 P_34 hOr bel_34 hd35
        generalize y33.drew = yz35 at X_36 Y_36 P_36 Q_36 bel_36 ⊢
        refine h_take 0 (.int .i64 0) rfl 131 rfl (by kernel_rfl) (by kernel_rfl) (by kernel_rfl) (by kernel_rfl) (fun _ _ _ h => h) (fun w' _ => by kernel_rfl) ⟨X_36, Y_36, trivial⟩ ?_
        simp only [Act.put, List.setIfInBounds_toArray, List.set_cons_zero, List.set_cons_succ]
        refine h_take 1 (.bool false) rfl 132 rfl (by kernel_rfl) (by kernel_rfl) (by kernel_rfl) (by kernel_rfl) (fun _ _ _ h => h) (fun w' _ => by kernel_rfl) ⟨X_36, Y_36, trivial⟩ ?_
        simp only [Act.put, List.setIfInBounds_toArray, List.set_cons_zero, List.set_cons_succ]
        refine h_take 2 (.bool false) rfl 133 rfl (by kernel_rfl) (by kernel_rfl) (by kernel_rfl) (by kernel_rfl) (fun _ _ _ h => h) (fun w' _ => by kernel_rfl) ⟨X_36, Y_36, trivial⟩ ?_
        simp only [Act.put, List.setIfInBounds_toArray, List.set_cons_zero, List.set_cons_succ]
        refine h_take 3 (.slice q1 nx c1) rfl 134 rfl (by kernel_rfl) (by kernel_rfl) (by kernel_rfl) (by kernel_rfl) (fun _ _ _ h => h) (fun w' _ => by kernel_rfl) ⟨X_36, Y_36, trivial⟩ ?_
        simp only [Act.put, List.setIfInBounds_toArray, List.set_cons_zero, List.set_cons_succ]
        refine h_take 4 (.slice q2 ny c2) rfl 135 rfl (by kernel_rfl) (by kernel_rfl) (by kernel_rfl) (by kernel_rfl) (fun _ _ _ h => h) (fun w' _ => by kernel_rfl) ⟨X_36, Y_36, trivial⟩ ?_
        simp only [Act.put, List.setIfInBounds_toArray, List.set_cons_zero, List.set_cons_succ]
        refine h_take 6 (.agg (mcs m).toArray) rfl 137 rfl (by kernel_rfl) (by kernel_rfl) (by kernel_rfl) (by kernel_rfl) (fun _ _ _ h => h) (fun w' hw => run_op_load _ _ rfl X (0) rfl (mcs m) (((Has.refl _)).range hw.1) (SX.out)) ⟨X_36, Y_36, trivial⟩ ?_
        simp only [Act.put, List.setIfInBounds_toArray, List.set_cons_zero, List.set_cons_succ]
        refine h_take 7 (.agg (mcs n).toArray) rfl 138 rfl (by kernel_rfl) (by kernel_rfl) (by kernel_rfl) (by kernel_rfl) (fun _ _ _ h => h) (fun w' hw => run_op_load _ _ rfl Y (0) rfl (mcs n) (((Has.refl _)).range hw.2.1) (SY.out)) ⟨X_36, Y_36, trivial⟩ ?_
        simp only [Act.put, List.setIfInBounds_toArray, List.set_cons_zero, List.set_cons_succ]
        refine h_take 8 (.bool vb) rfl 139 rfl (by kernel_rfl) (by kernel_rfl) (by kernel_rfl) (by kernel_rfl) (fun _ _ _ h => h) (fun w' _ => run_op_eqlM K.out J.out _ _ _ rfl rfl rfl vb HVB.out w') ⟨X_36, Y_36, trivial⟩ ?_
        simp only [Act.put, List.setIfInBounds_toArray, List.set_cons_zero, List.set_cons_succ]
        refine h_one (i := 5) (by kernel_rfl) (o_call rfl 136 rfl (by kernel_rfl) (run_op_call 14 _ _ rfl #[.slice q1 nx c1, .slice q2 ny c2] (by simp only [List.map_toArray, List.map_cons, List.map_nil]; rfl) Try.func14 (by kernel_rfl) (by kernel_rfl) _) (CSM.out _ _ _ _ _ P_36 Q_36) ?_)
        rintro e y37 ⟨rfl, hB⟩
        have X_38 : Row y37 X 42 (mcs m) := X_36.old hB
        have Y_38 : Row y37 Y 42 (mcs n) := Y_36.old hB
        have P_38 : Bt.Own y37 0 q1 c1 xs := P_36.below hB
        have Q_38 : Bt.Own y37 0 q2 c2 ys := Q_36.below hB
        have bel_38 : Below w.heap.size w y37 := below_step bel_36 bel_36.size hB
        clear X_36 Y_36 P_36 Q_36 bel_36 hB
        refine ⟨_, rfl, ⟨X_38, Y_38, trivial⟩, ?_⟩
        simp only [Act.put, List.setIfInBounds_toArray, List.set_cons_zero, List.set_cons_succ]
        refine h_take 9 (.bool true) rfl 140 rfl (by kernel_rfl) (by kernel_rfl) (by kernel_rfl) (by kernel_rfl) (fun _ _ _ h => h) (fun w' _ => run_op_eqlBB _ _ _ rfl vb vb rfl rfl true HEV.out w') ⟨X_38, Y_38, trivial⟩ ?_
        simp only [Act.put, List.setIfInBounds_toArray, List.set_cons_zero, List.set_cons_succ]
        refine h_take 10 (.bool true) rfl 141 rfl (by kernel_rfl) (by kernel_rfl) (by kernel_rfl) (by kernel_rfl) (fun _ _ _ h => h) (fun w' _ => by kernel_rfl) ⟨X_38, Y_38, trivial⟩ ?_
        simp only [Act.put, List.setIfInBounds_toArray, List.set_cons_zero, List.set_cons_succ]
        refine h_take 11 (.bool true) rfl 6 rfl (by kernel_rfl) (by kernel_rfl) (by kernel_rfl) (by kernel_rfl) (fun _ _ _ h => h) (fun w' _ => by kernel_rfl) ⟨X_38, Y_38, trivial⟩ ?_
        simp only [Act.put, List.setIfInBounds_toArray, List.set_cons_zero, List.set_cons_succ]
        refine wpAnyH_done (by kernel_rfl) ?_ _
        go_wp2_with fail
        go_ret
        exact ⟨rfl, bel_38⟩
      · skip
        obtain ⟨ys, hys⟩ : ∃ d, d = mbB n := ⟨_, rfl⟩
        obtain ⟨ny, hny⟩ : ∃ d, d = (mbB n).length := ⟨_, rfl⟩
        have HNY : Hid (ny = ys.length) := Lib.hid (by rw [hny, hys])
        have CBN2 : Hid (∀ w0, Calls Try.prog 7 #[.agg (mcs n).toArray] w0 fun e w' => (∃ q c, e = .returned (.tuple #[.slice q ny c, .int .i64 1]) ∧ Bt.Own w' w0.heap.size q c ys) ∧ Below w0.heap.size w0 w') := Lib.hid fun w0 => (CBN.out w0).mono fun e w' h => ⟨by
          obtain ⟨q, c, h1, h2⟩ := h.ex
          rw [mbE_no hg, ← hny] at h1
          rw [hys]
          exact ⟨q, c, h1, h2⟩, h.bel⟩
        clear hys hny hg
        refine (CBN2.out _).mono ?_
        rintro e y33 ⟨⟨q2, c2, rfl, hO⟩, hB⟩
        have X_34 : Row y33 X 42 (mcs m) := X_32.old hB
        have Y_34 : Row y33 Y 42 (mcs n) := Y_32.old hB
        have P_34 : Bt.Own y33 0 q1 c1 xs := P_32.below hB
        have bel_34 : Below w.heap.size w y33 := below_step bel_32 bel_32.size hB
        clear X_32 Y_32 P_32 bel_32 hB
        have hOr := own_mono hO (Nat.zero_le _); clear hO
        go_wp2_with fail
        refine wp_region_held (S := fun w' => Row w' X 42 (mcs m) ∧ Row w' Y 42 (mcs n) ∧ True) (by kernel_rfl) ?_
        change wpAnyH _ _ _ _ _ _ _ _ y33.drew
        have hd35 : Below y33.heap.size y33 y33.drew := (Below.refl _ _).drew
        have X_36 : Row y33.drew X 42 (mcs m) := X_34.old hd35
        have Y_36 : Row y33.drew Y 42 (mcs n) := Y_34.old hd35
        have P_36 : Bt.Own y33.drew 0 q1 c1 xs := P_34.below hd35
        have Q_36 : Bt.Own y33.drew 0 q2 c2 ys := hOr.below hd35
        have bel_36 : Below w.heap.size w y33.drew := below_step bel_34 bel_34.size hd35
        clear X_34 Y_34 P_34 hOr bel_34 hd35
        generalize y33.drew = yz35 at X_36 Y_36 P_36 Q_36 bel_36 ⊢
        refine h_take 0 (.int .i64 1) rfl 131 rfl (by kernel_rfl) (by kernel_rfl) (by kernel_rfl) (by kernel_rfl) (fun _ _ _ h => h) (fun w' _ => by kernel_rfl) ⟨X_36, Y_36, trivial⟩ ?_
        simp only [Act.put, List.setIfInBounds_toArray, List.set_cons_zero, List.set_cons_succ]
        refine h_take 1 (.bool true) rfl 132 rfl (by kernel_rfl) (by kernel_rfl) (by kernel_rfl) (by kernel_rfl) (fun _ _ _ h => h) (fun w' _ => by kernel_rfl) ⟨X_36, Y_36, trivial⟩ ?_
        simp only [Act.put, List.setIfInBounds_toArray, List.set_cons_zero, List.set_cons_succ]
        refine h_take 2 (.bool true) rfl 133 rfl (by kernel_rfl) (by kernel_rfl) (by kernel_rfl) (by kernel_rfl) (fun _ _ _ h => h) (fun w' _ => by kernel_rfl) ⟨X_36, Y_36, trivial⟩ ?_
        simp only [Act.put, List.setIfInBounds_toArray, List.set_cons_zero, List.set_cons_succ]
        refine h_pass 3 rfl 134 rfl (by kernel_rfl) (by kernel_rfl) (by kernel_rfl) (by kernel_rfl) (fun _ _ _ h => h) ⟨X_36, Y_36, trivial⟩ ?_
        simp only [Act.put, List.setIfInBounds_toArray, List.set_cons_zero, List.set_cons_succ]
        refine h_pass 4 rfl 135 rfl (by kernel_rfl) (by kernel_rfl) (by kernel_rfl) (by kernel_rfl) (fun _ _ _ h => h) ⟨X_36, Y_36, trivial⟩ ?_
        simp only [Act.put, List.setIfInBounds_toArray, List.set_cons_zero, List.set_cons_succ]
        refine h_pass 5 rfl 136 rfl (by kernel_rfl) (by kernel_rfl) (by kernel_rfl) (by kernel_rfl) (fun _ _ _ h => h) ⟨X_36, Y_36, trivial⟩ ?_
        simp only [Act.put, List.setIfInBounds_toArray, List.set_cons_zero, List.set_cons_succ]
        refine h_pass 6 rfl 137 rfl (by kernel_rfl) (by kernel_rfl) (by kernel_rfl) (by kernel_rfl) (fun _ _ _ h => h) ⟨X_36, Y_36, trivial⟩ ?_
        simp only [Act.put, List.setIfInBounds_toArray, List.set_cons_zero, List.set_cons_succ]
        refine h_pass 7 rfl 138 rfl (by kernel_rfl) (by kernel_rfl) (by kernel_rfl) (by kernel_rfl) (fun _ _ _ h => h) ⟨X_36, Y_36, trivial⟩ ?_
        simp only [Act.put, List.setIfInBounds_toArray, List.set_cons_zero, List.set_cons_succ]
        refine h_pass 8 rfl 139 rfl (by kernel_rfl) (by kernel_rfl) (by kernel_rfl) (by kernel_rfl) (fun _ _ _ h => h) ⟨X_36, Y_36, trivial⟩ ?_
        simp only [Act.put, List.setIfInBounds_toArray, List.set_cons_zero, List.set_cons_succ]
        refine h_pass 9 rfl 140 rfl (by kernel_rfl) (by kernel_rfl) (by kernel_rfl) (by kernel_rfl) (fun _ _ _ h => h) ⟨X_36, Y_36, trivial⟩ ?_
        simp only [Act.put, List.setIfInBounds_toArray, List.set_cons_zero, List.set_cons_succ]
        refine h_take 10 (.bool true) rfl 141 rfl (by kernel_rfl) (by kernel_rfl) (by kernel_rfl) (by kernel_rfl) (fun _ _ _ h => h) (fun w' _ => by kernel_rfl) ⟨X_36, Y_36, trivial⟩ ?_
        simp only [Act.put, List.setIfInBounds_toArray, List.set_cons_zero, List.set_cons_succ]
        refine h_take 11 (.bool true) rfl 6 rfl (by kernel_rfl) (by kernel_rfl) (by kernel_rfl) (by kernel_rfl) (fun _ _ _ h => h) (fun w' _ => by kernel_rfl) ⟨X_36, Y_36, trivial⟩ ?_
        simp only [Act.put, List.setIfInBounds_toArray, List.set_cons_zero, List.set_cons_succ]
        refine wpAnyH_done (by kernel_rfl) ?_ _
        go_wp2_with fail
        go_ret
        exact ⟨rfl, bel_36⟩
    · skip
      have CRM2 : Hid (∀ w0, Calls Try.prog 12 #[.agg (mcs m).toArray] w0 fun e w' => e = .returned (.bool false) ∧ Below w0.heap.size w0 w') := Lib.hid fun w0 => (CRM.out w0).mono fun e w' h => ⟨by rw [h.1, mrB_false hr], h.2⟩
      have CBM2 : Hid (∀ w0, Calls Try.prog 7 #[.agg (mcs m).toArray] w0 fun e w' => (∃ q c, e = .returned (.tuple #[.slice q 0 c, .int .i64 1])) ∧ Below w0.heap.size w0 w') := Lib.hid fun w0 => (CBM.out w0).mono fun e w' h => ⟨by
        obtain ⟨q, c, h1, h2⟩ := h.ex
        rw [mbE_no hr, mbB_no hr] at h1
        exact ⟨q, c, h1⟩, h.bel⟩
      clear hr
      refine (CBM2.out _).mono ?_
      rintro e y11 ⟨⟨q1, c1, rfl⟩, hB⟩
      have X_12 : Row y11 X 42 (mcs m) := X_10.old hB
      have Y_12 : Row y11 Y 42 (mcs n) := Y_10.old hB
      have bel_12 : Below w.heap.size w y11 := below_step bel_10 bel_10.size hB
      clear X_10 Y_10 bel_10 hB
      go_wp2_with (first
        | ((with_reducible refine at_slot 75 ?_); (refine arm_load (o := ⟨some 75, _, _, _, _, _⟩) rfl _ _ rfl X 0 rfl (mcs m) ((Has.refl _).range X_12) SX.out ?_); try simp only [Act.put, List.setIfInBounds_toArray, List.set_cons_zero, List.set_cons_succ]))
      refine (CRM2.out _).mono ?_
      rintro e y13 ⟨rfl, hB⟩
      have X_14 : Row y13 X 42 (mcs m) := X_12.old hB
      have Y_14 : Row y13 Y 42 (mcs n) := Y_12.old hB
      have bel_14 : Below w.heap.size w y13 := below_step bel_12 bel_12.size hB
      clear X_12 Y_12 bel_12 hB
      go_wp2_with (first
        | ((with_reducible refine at_slot 77 ?_); (refine arm_want (.bool false) 77 rfl (by kernel_rfl) (run_op_neqBB _ _ _ rfl false false rfl rfl false rfl _) ?_); try simp only [Act.put, List.setIfInBounds_toArray, List.set_cons_zero, List.set_cons_succ]))
      go_ret
      exact ⟨rfl, bel_14⟩
end Go.Proofs.Ytghogoijjaiccaa.Ms
