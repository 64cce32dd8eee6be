/-
  The walk of layer 17's statement MessageTells, out of the contracts: it returns true, and changes nothing that was there. Over this seat's translation.
-/
import Derived.Test.YtghogoijjaiccaaMsgAwake
import Derived.Test.YtghogoijjaiccaaMsgRBytes
import Derived.Test.YtghogoijjaiccaaMsgRRead
namespace Go.Proofs.Ytghogoijjaiccaa.Ms
open Go.ChangeShapes Go.WideShapes Go.ChangeAt Go.RowKit Go.Proofs.Ytghogoijjaiccaa.Mem Go.Proofs.Ytghogoijjaiccaa.Bt Go.Proofs.Ytghogoijjaiccaa.Wi Go.Proofs.Ytghogoijjaiccaa.Ac Go.Proofs.Ytghogoijjaiccaa.Tr Go.Proofs.Ytghogoijjaiccaa.Pf
open Go.Proofs.Ytghogoijjaiccaa.Tg (bytesOf bytesOf_length bytesOf_lt bytesOf_inj Rd Rd.below)
open Go.Proofs.Ytghogoijjaiccaa.Ep (H32 zh zh_ok Has Has.refl Has.left Has.right Has.head Has.get Has.chunk Has.range h_len szH zH fitH allH one_app num32)
open Go.Proofs.Ytghogoijjaiccaa.Sa (Sta scs scs_len scs_one zs zs_ok scs_app staB staB_len SRt rdS rdS_ok sz_sta z_sta sz_rsta z_rsta fitS allS)
set_option linter.unusedVariables false
set_option linter.unusedSimpArgs false

theorem run_op_eqlBB {o : Oper} {a : Act} (x y : Operand) (t' : TypeId) (ho : o.op = .binOp .eql 4 x y t') (p q : Bool) (hx : a.eval x = .bool p) (hy : a.eval y = .bool q) (r : Bool) (hr : (p == q) = r) (w : World) : (execOp a.eval o).run Try.prog w = .ok (.value (.bool r)) w := by
  subst hr
  unfold execOp
  cases p <;> cases q <;> simp only [ho, hx, hy] <;> kernel_rfl
theorem run_op_neqBB {o : Oper} {a : Act} (x y : Operand) (t' : TypeId) (ho : o.op = .binOp .neq 4 x y t') (p q : Bool) (hx : a.eval x = .bool p) (hy : a.eval y = .bool q) (r : Bool) (hr : (p != q) = r) (w : World) : (execOp a.eval o).run Try.prog w = .ok (.value (.bool r)) w := by
  subst hr
  unfold execOp
  cases p <;> cases q <;> simp only [ho, hx, hy] <;> kernel_rfl
set_option maxHeartbeats 4000000 in
set_option maxRecDepth 100000 in
theorem messageTells_any (m : Msg) (b : List Nat) (p : Option Addr) (cap : Nat) (w : World) (k : m.Ok) (hc : Bt.Came w p cap b) :
    Calls Try.prog 3 #[.agg (mcs m).toArray, .slice p b.length cap] w fun e w' => e = .returned (.bool true) ∧ Below w.heap.size w w' := by
  have K := Lib.hid k
  have CA := Lib.hid (fun w0 => awake17_any w0)
  have CN := Lib.hid (m_nm k.st).get
  have SX := Lib.hid (sz_msg k)
  have HCM : Hid (∀ w', Below w.heap.size w w' → Bt.Came w' p cap b) := Lib.hid fun w' hb => hc.below hb
  have RK := Lib.hid (rdM_ok hc.lt_)
  have HBL := Lib.hid (mbB_len k)
  have CR1 := Lib.hid (fun w0 => mright_any m w0 k); have CR2 := Lib.hid (fun w0 => rmright_any m w0 k)
  have COM := Lib.hid (fun w0 => own17_any m w0 k); have COR := Lib.hid (fun w0 => own17_any _ w0 RK.out)
  obtain ⟨s, hs⟩ : ∃ s, s = m.acc.nm := ⟨_, rfl⟩
  obtain ⟨xs, hxs⟩ : ∃ d, d = mbB m := ⟨_, rfl⟩
  obtain ⟨nx, hnx⟩ : ∃ d, d = (mbB m).length := ⟨_, rfl⟩
  obtain ⟨ze, hze⟩ : ∃ d : Int, d = (mbE m : Int) := ⟨_, rfl⟩
  obtain ⟨r, hr⟩ : ∃ d, d = (rdM b).1 := ⟨_, rfl⟩
  obtain ⟨zr, hzr⟩ : ∃ d : Int, d = ((rdM b).2 : Int) := ⟨_, rfl⟩
  have CB1 : Hid (∀ w0, Calls Try.prog 7 #[.agg (mcs m).toArray] w0 fun e w' => (∃ q c, e = .returned (.tuple #[.slice q nx c, .int .i64 ze]) ∧ Bt.Own w' w0.heap.size q c xs) ∧ Below w0.heap.size w0 w') := Lib.hid fun w0 => (mbytes_any m w0 k).mono fun e w' h => ⟨by rw [hxs, hnx, hze]; exact h.ex, h.bel⟩
  have CB2 : Hid (∀ w0, Calls Try.prog 8 #[.agg (mcs m).toArray] w0 fun e w' => (∃ q c, e = .returned (.tuple #[.slice q nx c, .int .i64 ze]) ∧ Bt.Own w' w0.heap.size q c xs) ∧ Below w0.heap.size w0 w') := Lib.hid fun w0 => (rmbytes_any m w0 k).mono fun e w' h => ⟨by rw [hxs, hnx, hze]; exact h.ex, h.bel⟩
  have CD1 : Hid (∀ w0, Bt.Came w0 p cap b → Calls Try.prog 10 #[.slice p b.length cap] w0 fun e w' => e = .returned (.tuple #[.agg (mcs r).toArray, .int .i64 zr]) ∧ Below w0.heap.size w0 w') := Lib.hid fun w0 h => (mread_any b p cap w0 h).mono fun e w' h => ⟨by rw [hr, hzr]; exact h.ret, h.bel⟩
  have CD2 : Hid (∀ w0, Bt.Came w0 p cap b → Calls Try.prog 11 #[.slice p b.length cap] w0 fun e w' => e = .returned (.tuple #[.agg (mcs r).toArray, .int .i64 zr]) ∧ Below w0.heap.size w0 w') := Lib.hid fun w0 h => (rmread_any b p cap w0 h).mono fun e w' h => ⟨by rw [hr, hzr]; exact h.ret, h.bel⟩
  have CSM : Hid (∀ q c r d w0, Bt.Own w0 0 q c xs → Bt.Own w0 0 r d xs → Calls Try.prog 14 #[.slice q nx c, .slice r nx d] w0 fun e w' => e = .returned (.bool true) ∧ Below w0.heap.size w0 w') := Lib.hid fun q c r d w0 h1 h2 => by
    have g := same_at xs xs q r c d nx nx (by rw [hnx, hxs]) (by rw [hnx, hxs]) w0 h1.rd h2.rd (by rw [hxs]; have := HBL.out; omega) (by rw [hxs]; have := HBL.out; omega)
    rw [decide_eq_true rfl] at g
    exact g
  rw [← hs] at CN
  rw [← hr] at RK COR
  obtain ⟨bb, hbb⟩ : ∃ d, d = mrB m := ⟨_, rfl⟩
  rw [← hbb] at CR1 CR2
  have SR := Lib.hid (sz_msg RK.out); have SRR := Lib.hid (sz_rmsg RK.out)
  have HEB : Hid ((bb == bb) = true) := Lib.hid (by simp)
  clear hs hxs hnx hze hr hzr hbb k hc
  by_cases h1 : 1000 < s.size
  · have d1 : decide ((1000 : Int) < (s.size : Int)) = true := decide_eq_true (by omega)
    have d1' : decide (1000 < s.size) = true := decide_eq_true (by omega)
    clear h1
    go_enter Try.func3, Try.ntmps3
    go_wp2_with (first
      | ((with_reducible refine at_slot 2 ?_); (refine arm_box (o := ⟨some 2, _, _, _, _, _⟩) rfl _ _ rfl (mcs m) rfl ?_); intro X v1 Xe hv1 nv1; try simp only [Act.put, List.setIfInBounds_toArray, List.set_cons_zero, List.set_cons_succ]))
    have hbv1 := nv1.below
    have rrv1 : Row v1 X 42 (mcs m) := hv1
    have geX : w.heap.size ≤ X := by have := Xe.out; omega
    have lXx : w.heap.size ≤ X := by have := Xe.out; omega
    clear hv1 nv1 Xe
    have bel_2 : Below w.heap.size w v1 := hbv1
    clear hbv1
    refine (CA.out _).mono ?_
    rintro e y3 ⟨rfl, hB⟩
    have X_4 : Row y3 X 42 (mcs m) := rrv1.old hB
    have bel_4 : Below w.heap.size w y3 := below_step bel_2 bel_2.size hB
    clear rrv1 bel_2 hB
    have cn := X_4.cell CN.out
    go_wp2_with fail
    go_ret
    exact ⟨rfl, bel_4⟩
  · have d1 : decide ((1000 : Int) < (s.size : Int)) = false := decide_eq_false (by omega)
    have d1' : decide (1000 < s.size) = false := decide_eq_false (by omega)
    by_cases h2 : 1000 < b.length
    · have d2 : decide ((1000 : Int) < (b.length : Int)) = true := decide_eq_true (by omega)
      have d2' : decide (1000 < b.length) = true := decide_eq_true (by omega)
      clear h1 h2
      go_enter Try.func3, Try.ntmps3
      go_wp2_with (first
        | ((with_reducible refine at_slot 2 ?_); (refine arm_box (o := ⟨some 2, _, _, _, _, _⟩) rfl _ _ rfl (mcs m) rfl ?_); intro X v1 Xe hv1 nv1; try simp only [Act.put, List.setIfInBounds_toArray, List.set_cons_zero, List.set_cons_succ]))
      have hbv1 := nv1.below
      have rrv1 : Row v1 X 42 (mcs m) := hv1
      have geX : w.heap.size ≤ X := by have := Xe.out; omega
      have lXx : w.heap.size ≤ X := by have := Xe.out; omega
      clear hv1 nv1 Xe
      have bel_2 : Below w.heap.size w v1 := hbv1
      clear hbv1
      refine (CA.out _).mono ?_
      rintro e y3 ⟨rfl, hB⟩
      have X_4 : Row y3 X 42 (mcs m) := rrv1.old hB
      have bel_4 : Below w.heap.size w y3 := below_step bel_2 bel_2.size hB
      clear rrv1 bel_2 hB
      have cn := X_4.cell CN.out
      go_wp2_with fail
      go_ret
      exact ⟨rfl, bel_4⟩
    · have d2 : decide ((1000 : Int) < (b.length : Int)) = false := decide_eq_false (by omega)
      have d2' : decide (1000 < b.length) = false := decide_eq_false (by omega)
      clear h1 h2
      go_enter Try.func3, Try.ntmps3
      go_wp2_with (first
        | ((with_reducible refine at_slot 2 ?_); (refine arm_box (o := ⟨some 2, _, _, _, _, _⟩) rfl _ _ rfl (mcs m) rfl ?_); intro X v1 Xe hv1 nv1; try simp only [Act.put, List.setIfInBounds_toArray, List.set_cons_zero, List.set_cons_succ]))
      have hbv1 := nv1.below
      have rrv1 : Row v1 X 42 (mcs m) := hv1
      have geX : w.heap.size ≤ X := by have := Xe.out; omega
      have lXx : w.heap.size ≤ X := by have := Xe.out; omega
      clear hv1 nv1 Xe
      have bel_2 : Below w.heap.size w v1 := hbv1
      clear hbv1
      refine (CA.out _).mono ?_
      rintro e y3 ⟨rfl, hB⟩
      have X_4 : Row y3 X 42 (mcs m) := rrv1.old hB
      have bel_4 : Below w.heap.size w y3 := below_step bel_2 bel_2.size hB
      clear rrv1 bel_2 hB
      have cn := X_4.cell CN.out
      go_wp2_with (first
        | ((with_reducible refine at_slot 26 ?_); (refine arm_load (o := ⟨some 26, _, _, _, _, _⟩) rfl _ _ rfl X 0 rfl (mcs m) ((Has.refl _).range X_4) SX.out ?_); try simp only [Act.put, List.setIfInBounds_toArray, List.set_cons_zero, List.set_cons_succ]))
      clear cn
      refine (CB1.out _).mono ?_
      rintro e y5 ⟨⟨q1, c1, rfl, hO⟩, hB⟩
      have X_6 : Row y5 X 42 (mcs m) := X_4.old hB
      have bel_6 : Below w.heap.size w y5 := below_step bel_4 bel_4.size hB
      clear X_4 bel_4 hB
      have hO1 := own_mono hO (Nat.zero_le _); clear hO
      go_wp2_with (first
        | ((with_reducible refine at_slot 31 ?_); (refine arm_load (o := ⟨some 31, _, _, _, _, _⟩) rfl _ _ rfl X 0 rfl (mcs m) ((Has.refl _).range X_6) SX.out ?_); try simp only [Act.put, List.setIfInBounds_toArray, List.set_cons_zero, List.set_cons_succ]))
      refine (COM.out _).mono ?_
      rintro e y7 ⟨rfl, hB⟩
      have X_8 : Row y7 X 42 (mcs m) := X_6.old hB
      have P_8 : Bt.Own y7 0 q1 c1 xs := hO1.below hB
      have bel_8 : Below w.heap.size w y7 := below_step bel_6 bel_6.size hB
      clear X_6 hO1 bel_6 hB
      go_wp2_with fail
      refine (CB2.out _).mono ?_
      rintro e y9 ⟨⟨q2, c2, rfl, hO⟩, hB⟩
      have X_10 : Row y9 X 42 (mcs m) := X_8.old hB
      have P_10 : Bt.Own y9 0 q1 c1 xs := P_8.below hB
      have bel_10 : Below w.heap.size w y9 := below_step bel_8 bel_8.size hB
      clear X_8 P_8 bel_8 hB
      have hO2 := own_mono hO (Nat.zero_le _); clear hO
      go_wp2_with fail
      refine (CD1.out _ (HCM.out _ bel_10)).mono ?_
      rintro e y11 ⟨rfl, hB⟩
      have X_12 : Row y11 X 42 (mcs m) := X_10.old hB
      have P_12 : Bt.Own y11 0 q1 c1 xs := P_10.below hB
      have Q_12 : Bt.Own y11 0 q2 c2 xs := hO2.below hB
      have bel_12 : Below w.heap.size w y11 := below_step bel_10 bel_10.size hB
      clear X_10 P_10 hO2 bel_10 hB
      go_wp2_with (first
        | ((with_reducible refine at_slot 9 ?_); (refine arm_alloc (o := ⟨some 9, _, _, _, _, _⟩) rfl _ rfl (mcs zm) z_msg ?_); intro N v13a Ne hNa nN; try simp only [Act.put, List.setIfInBounds_toArray, List.set_cons_zero, List.set_cons_succ])
        | ((with_reducible refine arm_store (o := ⟨none, _, _, _, _, _⟩) rfl _ _ _ rfl N 0 rfl (mcs r) rfl _ _ hNa (fitM RK.out) (mcs_one _) SR.out ?_); intro v13 hNb oN sN; try simp only [Act.put, List.setIfInBounds_toArray, List.set_cons_zero, List.set_cons_succ]; refine Pf.pause ?_; try simp only [Act.put, List.setIfInBounds_toArray, List.set_cons_zero, List.set_cons_succ]))
      have lN : y11.heap.size ≤ N := by have := Ne.out; omega
      have bN : Below y11.heap.size y11 v13 := below_only nN.below oN lN nN.below.size
      have rrN : Row v13 N 42 (mcs r) := hNb.congr (allM RK.out)
      have geN : w.heap.size ≤ N := Nat.le_trans bel_12.size lN
      have lNx := lN
      clear hNa hNb nN oN sN Ne lN
      have X_14 : Row v13 X 42 (mcs m) := X_12.old bN
      have P_14 : Bt.Own v13 0 q1 c1 xs := P_12.below bN
      have Q_14 : Bt.Own v13 0 q2 c2 xs := Q_12.below bN
      have bel_14 : Below w.heap.size w v13 := below_step bel_12 bel_12.size bN
      clear X_12 P_12 Q_12 bel_12 bN
      refine Pf.go_on ?_
      go_wp2_with fail
      refine (CD2.out _ (HCM.out _ bel_14)).mono ?_
      rintro e y15 ⟨rfl, hB⟩
      have X_16 : Row y15 X 42 (mcs m) := X_14.old hB
      have P_16 : Bt.Own y15 0 q1 c1 xs := P_14.below hB
      have Q_16 : Bt.Own y15 0 q2 c2 xs := Q_14.below hB
      have N_16 : Row y15 N 42 (mcs r) := rrN.old hB
      have bel_16 : Below w.heap.size w y15 := below_step bel_14 bel_14.size hB
      clear X_14 P_14 Q_14 rrN bel_14 hB
      go_wp2_with (first
        | ((with_reducible refine at_slot 11 ?_); (refine arm_alloc (o := ⟨some 11, _, _, _, _, _⟩) rfl _ rfl (mcs zm) z_rmsg ?_); intro M v17a Me hMa nM; try simp only [Act.put, List.setIfInBounds_toArray, List.set_cons_zero, List.set_cons_succ])
        | ((with_reducible refine arm_store (o := ⟨none, _, _, _, _, _⟩) rfl _ _ _ rfl M 0 rfl (mcs r) rfl _ _ hMa (fitM RK.out) (mcs_one _) SRR.out ?_); intro v17 hMb oM sM; try simp only [Act.put, List.setIfInBounds_toArray, List.set_cons_zero, List.set_cons_succ]; refine Pf.pause ?_; try simp only [Act.put, List.setIfInBounds_toArray, List.set_cons_zero, List.set_cons_succ]))
      have lM : y15.heap.size ≤ M := by have := Me.out; omega
      have bM : Below y15.heap.size y15 v17 := below_only nM.below oM lM nM.below.size
      have rrM : Row v17 M 59 (mcs r) := hMb.congr (allM RK.out)
      have geM : w.heap.size ≤ M := Nat.le_trans bel_16.size lM
      have lMx := lM
      clear hMa hMb nM oM sM Me lM
      have X_18 : Row v17 X 42 (mcs m) := X_16.old bM
      have P_18 : Bt.Own v17 0 q1 c1 xs := P_16.below bM
      have Q_18 : Bt.Own v17 0 q2 c2 xs := Q_16.below bM
      have N_18 : Row v17 N 42 (mcs r) := N_16.old bM
      have bel_18 : Below w.heap.size w v17 := below_step bel_16 bel_16.size bM
      clear X_16 P_16 Q_16 N_16 bel_16 bM
      refine Pf.go_on ?_
      go_wp2_with fail
      refine wp_region_held (S := fun w' => Row w' X 42 (mcs m) ∧ Row w' N 42 (mcs r) ∧ Row w' M 59 (mcs r) ∧ True) (by kernel_rfl) ?_
      change wpAnyH _ _ _ _ _ _ _ _ v17.drew
      have hd19 : Below v17.heap.size v17 v17.drew := (Below.refl _ _).drew
      have X_20 : Row v17.drew X 42 (mcs m) := X_18.old hd19
      have P_20 : Bt.Own v17.drew 0 q1 c1 xs := P_18.below hd19
      have Q_20 : Bt.Own v17.drew 0 q2 c2 xs := Q_18.below hd19
      have N_20 : Row v17.drew N 42 (mcs r) := N_18.old hd19
      have M_20 : Row v17.drew M 59 (mcs r) := rrM.old hd19
      have bel_20 : Below w.heap.size w v17.drew := below_step bel_18 bel_18.size hd19
      clear X_18 P_18 Q_18 N_18 rrM bel_18 hd19
      generalize v17.drew = yz19 at X_20 P_20 Q_20 N_20 M_20 bel_20 ⊢
      refine h_take 0 (.agg (mcs m).toArray) rfl 46 rfl (by kernel_rfl) (by kernel_rfl) (by kernel_rfl) (by kernel_rfl) (fun _ _ _ h => h) (fun w' hw => run_op_load _ _ rfl X (0) rfl (mcs m) (((Has.refl _)).range hw.1) (SX.out)) ⟨X_20, N_20, M_20, trivial⟩ ?_
      simp only [Act.put, List.setIfInBounds_toArray, List.set_cons_zero, List.set_cons_succ]
      refine h_take 2 (.agg (mcs m).toArray) rfl 48 rfl (by kernel_rfl) (by kernel_rfl) (by kernel_rfl) (by kernel_rfl) (fun _ _ _ h => h) (fun w' hw => run_op_load _ _ rfl X (0) rfl (mcs m) (((Has.refl _)).range hw.1) (SX.out)) ⟨X_20, N_20, M_20, trivial⟩ ?_
      simp only [Act.put, List.setIfInBounds_toArray, List.set_cons_zero, List.set_cons_succ]
      refine h_one (i := 1) (by kernel_rfl) (o_call rfl 47 rfl (by kernel_rfl) (run_op_call 12 _ _ rfl #[.agg (mcs m).toArray] (by simp only [List.map_toArray, List.map_cons, List.map_nil]; rfl) Try.func12 (by kernel_rfl) (by kernel_rfl) _) (CR1.out _) ?_)
      rintro e y21 ⟨rfl, hB⟩
      have X_22 : Row y21 X 42 (mcs m) := X_20.old hB
      have P_22 : Bt.Own y21 0 q1 c1 xs := P_20.below hB
      have Q_22 : Bt.Own y21 0 q2 c2 xs := Q_20.below hB
      have N_22 : Row y21 N 42 (mcs r) := N_20.old hB
      have M_22 : Row y21 M 59 (mcs r) := M_20.old hB
      have bel_22 : Below w.heap.size w y21 := below_step bel_20 bel_20.size hB
      clear X_20 P_20 Q_20 N_20 M_20 bel_20 hB
      refine ⟨_, rfl, ⟨X_22, N_22, M_22, trivial⟩, ?_⟩
      simp only [Act.put, List.setIfInBounds_toArray, List.set_cons_zero, List.set_cons_succ]
      refine h_one (i := 3) (by kernel_rfl) (o_call rfl 49 rfl (by kernel_rfl) (run_op_call 9 _ _ rfl #[.agg (mcs m).toArray] (by simp only [List.map_toArray, List.map_cons, List.map_nil]; rfl) Try.func9 (by kernel_rfl) (by kernel_rfl) _) (COM.out _) ?_)
      rintro e y23 ⟨rfl, hB⟩
      have X_24 : Row y23 X 42 (mcs m) := X_22.old hB
      have P_24 : Bt.Own y23 0 q1 c1 xs := P_22.below hB
      have Q_24 : Bt.Own y23 0 q2 c2 xs := Q_22.below hB
      have N_24 : Row y23 N 42 (mcs r) := N_22.old hB
      have M_24 : Row y23 M 59 (mcs r) := M_22.old hB
      have bel_24 : Below w.heap.size w y23 := below_step bel_22 bel_22.size hB
      clear X_22 P_22 Q_22 N_22 M_22 bel_22 hB
      refine ⟨_, rfl, ⟨X_24, N_24, M_24, trivial⟩, ?_⟩
      simp only [Act.put, List.setIfInBounds_toArray, List.set_cons_zero, List.set_cons_succ]
      refine h_one (i := 4) (by kernel_rfl) (o_call rfl 50 rfl (by kernel_rfl) (run_op_call 13 _ _ rfl #[.agg (mcs m).toArray] (by simp only [List.map_toArray, List.map_cons, List.map_nil]; rfl) Try.func13 (by kernel_rfl) (by kernel_rfl) _) (CR2.out _) ?_)
      rintro e y25 ⟨rfl, hB⟩
      have X_26 : Row y25 X 42 (mcs m) := X_24.old hB
      have P_26 : Bt.Own y25 0 q1 c1 xs := P_24.below hB
      have Q_26 : Bt.Own y25 0 q2 c2 xs := Q_24.below hB
      have N_26 : Row y25 N 42 (mcs r) := N_24.old hB
      have M_26 : Row y25 M 59 (mcs r) := M_24.old hB
      have bel_26 : Below w.heap.size w y25 := below_step bel_24 bel_24.size hB
      clear X_24 P_24 Q_24 N_24 M_24 bel_24 hB
      refine ⟨_, rfl, ⟨X_26, N_26, M_26, trivial⟩, ?_⟩
      simp only [Act.put, List.setIfInBounds_toArray, List.set_cons_zero, List.set_cons_succ]
      refine h_take 5 (.bool true) rfl 51 rfl (by kernel_rfl) (by kernel_rfl) (by kernel_rfl) (by kernel_rfl) (fun _ _ _ h => h) (fun w' _ => run_op_eqlBB _ _ _ rfl bb bb rfl rfl true HEB.out w') ⟨X_26, N_26, M_26, trivial⟩ ?_
      simp only [Act.put, List.setIfInBounds_toArray, List.set_cons_zero, List.set_cons_succ]
      refine h_take 6 (.bool true) rfl 52 rfl (by kernel_rfl) (by kernel_rfl) (by kernel_rfl) (by kernel_rfl) (fun _ _ _ h => h) (fun w' _ => by kernel_rfl) ⟨X_26, N_26, M_26, trivial⟩ ?_
      simp only [Act.put, List.setIfInBounds_toArray, List.set_cons_zero, List.set_cons_succ]
      refine h_take 7 (.slice q1 nx c1) rfl 53 rfl (by kernel_rfl) (by kernel_rfl) (by kernel_rfl) (by kernel_rfl) (fun _ _ _ h => h) (fun w' _ => by kernel_rfl) ⟨X_26, N_26, M_26, trivial⟩ ?_
      simp only [Act.put, List.setIfInBounds_toArray, List.set_cons_zero, List.set_cons_succ]
      refine h_take 8 (.slice q2 nx c2) rfl 54 rfl (by kernel_rfl) (by kernel_rfl) (by kernel_rfl) (by kernel_rfl) (fun _ _ _ h => h) (fun w' _ => by kernel_rfl) ⟨X_26, N_26, M_26, trivial⟩ ?_
      simp only [Act.put, List.setIfInBounds_toArray, List.set_cons_zero, List.set_cons_succ]
      refine h_one (i := 9) (by kernel_rfl) (o_call rfl 55 rfl (by kernel_rfl) (run_op_call 14 _ _ rfl #[.slice q1 nx c1, .slice q2 nx c2] (by simp only [List.map_toArray, List.map_cons, List.map_nil]; rfl) Try.func14 (by kernel_rfl) (by kernel_rfl) _) (CSM.out _ _ _ _ _ P_26 Q_26) ?_)
      rintro e y27 ⟨rfl, hB⟩
      have X_28 : Row y27 X 42 (mcs m) := X_26.old hB
      have P_28 : Bt.Own y27 0 q1 c1 xs := P_26.below hB
      have Q_28 : Bt.Own y27 0 q2 c2 xs := Q_26.below hB
      have N_28 : Row y27 N 42 (mcs r) := N_26.old hB
      have M_28 : Row y27 M 59 (mcs r) := M_26.old hB
      have bel_28 : Below w.heap.size w y27 := below_step bel_26 bel_26.size hB
      clear X_26 P_26 Q_26 N_26 M_26 bel_26 hB
      refine ⟨_, rfl, ⟨X_28, N_28, M_28, trivial⟩, ?_⟩
      simp only [Act.put, List.setIfInBounds_toArray, List.set_cons_zero, List.set_cons_succ]
      refine h_take 10 (.bool true) rfl 56 rfl (by kernel_rfl) (by kernel_rfl) (by kernel_rfl) (by kernel_rfl) (fun _ _ _ h => h) (fun w' _ => by kernel_rfl) ⟨X_28, N_28, M_28, trivial⟩ ?_
      simp only [Act.put, List.setIfInBounds_toArray, List.set_cons_zero, List.set_cons_succ]
      refine h_take 11 (.bool true) rfl 57 rfl (by kernel_rfl) (by kernel_rfl) (by kernel_rfl) (by kernel_rfl) (fun _ _ _ h => h) (fun w' _ => by kernel_rfl) ⟨X_28, N_28, M_28, trivial⟩ ?_
      simp only [Act.put, List.setIfInBounds_toArray, List.set_cons_zero, List.set_cons_succ]
      refine h_take 12 (.int .i64 ze) rfl 58 rfl (by kernel_rfl) (by kernel_rfl) (by kernel_rfl) (by kernel_rfl) (fun _ _ _ h => h) (fun w' _ => by kernel_rfl) ⟨X_28, N_28, M_28, trivial⟩ ?_
      simp only [Act.put, List.setIfInBounds_toArray, List.set_cons_zero, List.set_cons_succ]
      refine h_take 13 (.int .i64 ze) rfl 59 rfl (by kernel_rfl) (by kernel_rfl) (by kernel_rfl) (by kernel_rfl) (fun _ _ _ h => h) (fun w' _ => by kernel_rfl) ⟨X_28, N_28, M_28, trivial⟩ ?_
      simp only [Act.put, List.setIfInBounds_toArray, List.set_cons_zero, List.set_cons_succ]
      refine h_take 14 (.bool true) rfl 60 rfl (by kernel_rfl) (by kernel_rfl) (by kernel_rfl) (by kernel_rfl) (fun _ _ _ h => h) (fun w' _ => cmp_eql _ _ .i64 (by kernel_rfl) _ _ rfl .i64 (ze) (ze) rfl rfl true (decide_eq_true rfl) w') ⟨X_28, N_28, M_28, trivial⟩ ?_
      simp only [Act.put, List.setIfInBounds_toArray, List.set_cons_zero, List.set_cons_succ]
      refine h_take 15 (.bool true) rfl 61 rfl (by kernel_rfl) (by kernel_rfl) (by kernel_rfl) (by kernel_rfl) (fun _ _ _ h => h) (fun w' _ => by kernel_rfl) ⟨X_28, N_28, M_28, trivial⟩ ?_
      simp only [Act.put, List.setIfInBounds_toArray, List.set_cons_zero, List.set_cons_succ]
      refine h_take 16 (.bool true) rfl 62 rfl (by kernel_rfl) (by kernel_rfl) (by kernel_rfl) (by kernel_rfl) (fun _ _ _ h => h) (fun w' _ => by kernel_rfl) ⟨X_28, N_28, M_28, trivial⟩ ?_
      simp only [Act.put, List.setIfInBounds_toArray, List.set_cons_zero, List.set_cons_succ]
      refine h_take 17 (.agg (mcs r).toArray) rfl 63 rfl (by kernel_rfl) (by kernel_rfl) (by kernel_rfl) (by kernel_rfl) (fun _ _ _ h => h) (fun w' hw => run_op_load _ _ rfl N (0) rfl (mcs r) (((Has.refl _)).range hw.2.1) (SR.out)) ⟨X_28, N_28, M_28, trivial⟩ ?_
      simp only [Act.put, List.setIfInBounds_toArray, List.set_cons_zero, List.set_cons_succ]
      refine h_take 19 (.agg (mcs r).toArray) rfl 65 rfl (by kernel_rfl) (by kernel_rfl) (by kernel_rfl) (by kernel_rfl) (fun _ _ _ h => h) (fun w' hw => run_op_load _ _ rfl M (0) rfl (mcs r) (((Has.refl _)).range hw.2.2.1) (SRR.out)) ⟨X_28, N_28, M_28, trivial⟩ ?_
      simp only [Act.put, List.setIfInBounds_toArray, List.set_cons_zero, List.set_cons_succ]
      refine h_one (i := 18) (by kernel_rfl) (o_call rfl 64 rfl (by kernel_rfl) (run_op_call 9 _ _ rfl #[.agg (mcs r).toArray] (by simp only [List.map_toArray, List.map_cons, List.map_nil]; rfl) Try.func9 (by kernel_rfl) (by kernel_rfl) _) (COR.out _) ?_)
      rintro e y29 ⟨rfl, hB⟩
      have X_30 : Row y29 X 42 (mcs m) := X_28.old hB
      have P_30 : Bt.Own y29 0 q1 c1 xs := P_28.below hB
      have Q_30 : Bt.Own y29 0 q2 c2 xs := Q_28.below hB
      have N_30 : Row y29 N 42 (mcs r) := N_28.old hB
      have M_30 : Row y29 M 59 (mcs r) := M_28.old hB
      have bel_30 : Below w.heap.size w y29 := below_step bel_28 bel_28.size hB
      clear X_28 P_28 Q_28 N_28 M_28 bel_28 hB
      refine ⟨_, rfl, ⟨X_30, N_30, M_30, trivial⟩, ?_⟩
      simp only [Act.put, List.setIfInBounds_toArray, List.set_cons_zero, List.set_cons_succ]
      refine h_take 20 (.bool true) rfl 66 rfl (by kernel_rfl) (by kernel_rfl) (by kernel_rfl) (by kernel_rfl) (fun _ _ _ h => h) (fun w' _ => run_op_eqlRM RK.out RK.out _ _ _ rfl rfl rfl true (iff_of_true rfl rfl) w') ⟨X_30, N_30, M_30, trivial⟩ ?_
      simp only [Act.put, List.setIfInBounds_toArray, List.set_cons_zero, List.set_cons_succ]
      refine h_take 21 (.bool true) rfl 67 rfl (by kernel_rfl) (by kernel_rfl) (by kernel_rfl) (by kernel_rfl) (fun _ _ _ h => h) (fun w' _ => by kernel_rfl) ⟨X_30, N_30, M_30, trivial⟩ ?_
      simp only [Act.put, List.setIfInBounds_toArray, List.set_cons_zero, List.set_cons_succ]
      refine h_take 22 (.bool true) rfl 68 rfl (by kernel_rfl) (by kernel_rfl) (by kernel_rfl) (by kernel_rfl) (fun _ _ _ h => h) (fun w' _ => by kernel_rfl) ⟨X_30, N_30, M_30, trivial⟩ ?_
      simp only [Act.put, List.setIfInBounds_toArray, List.set_cons_zero, List.set_cons_succ]
      refine h_take 23 (.int .i64 zr) rfl 69 rfl (by kernel_rfl) (by kernel_rfl) (by kernel_rfl) (by kernel_rfl) (fun _ _ _ h => h) (fun w' _ => by kernel_rfl) ⟨X_30, N_30, M_30, trivial⟩ ?_
      simp only [Act.put, List.setIfInBounds_toArray, List.set_cons_zero, List.set_cons_succ]
      refine h_take 24 (.int .i64 zr) rfl 70 rfl (by kernel_rfl) (by kernel_rfl) (by kernel_rfl) (by kernel_rfl) (fun _ _ _ h => h) (fun w' _ => by kernel_rfl) ⟨X_30, N_30, M_30, trivial⟩ ?_
      simp only [Act.put, List.setIfInBounds_toArray, List.set_cons_zero, List.set_cons_succ]
      refine h_take 25 (.bool true) rfl 71 rfl (by kernel_rfl) (by kernel_rfl) (by kernel_rfl) (by kernel_rfl) (fun _ _ _ h => h) (fun w' _ => cmp_eql _ _ .i64 (by kernel_rfl) _ _ rfl .i64 (zr) (zr) rfl rfl true (decide_eq_true rfl) w') ⟨X_30, N_30, M_30, trivial⟩ ?_
      simp only [Act.put, List.setIfInBounds_toArray, List.set_cons_zero, List.set_cons_succ]
      refine h_take 26 (.bool true) rfl 72 rfl (by kernel_rfl) (by kernel_rfl) (by kernel_rfl) (by kernel_rfl) (fun _ _ _ h => h) (fun w' _ => by kernel_rfl) ⟨X_30, N_30, M_30, trivial⟩ ?_
      simp only [Act.put, List.setIfInBounds_toArray, List.set_cons_zero, List.set_cons_succ]
      refine h_take 27 (.bool true) rfl 4 rfl (by kernel_rfl) (by kernel_rfl) (by kernel_rfl) (by kernel_rfl) (fun _ _ _ h => h) (fun w' _ => by kernel_rfl) ⟨X_30, N_30, M_30, trivial⟩ ?_
      simp only [Act.put, List.setIfInBounds_toArray, List.set_cons_zero, List.set_cons_succ]
      refine wpAnyH_done (by kernel_rfl) ?_ _
      go_wp2_with fail
      go_ret
      exact ⟨rfl, bel_30⟩
end Go.Proofs.Ytghogoijjaiccaa.Ms
