/-
  The walk of layer 17's statement MessageOdd, out of the contracts: it returns true, and changes nothing that was there. Over this seat's translation.
-/
import Derived.Test.YtghogoijjaiccaaMsgAwake
import Derived.Test.YtghogoijjaiccaaMsgAlloc
namespace Go.Proofs.Ytghogoijjaiccaa.Ms
open Go.ChangeShapes Go.WideShapes Go.ChangeAt Go.RowKit Go.Proofs.Ytghogoijjaiccaa.Mem Go.Proofs.Ytghogoijjaiccaa.Bt Go.Proofs.Ytghogoijjaiccaa.Wi Go.Proofs.Ytghogoijjaiccaa.Ac Go.Proofs.Ytghogoijjaiccaa.Tr Go.Proofs.Ytghogoijjaiccaa.Pf
open Go.Proofs.Ytghogoijjaiccaa.Tg (bytesOf bytesOf_length bytesOf_lt bytesOf_inj Rd Rd.below)
open Go.Proofs.Ytghogoijjaiccaa.Ep (H32 zh zh_ok Has Has.refl Has.left Has.right Has.head Has.get Has.chunk Has.range h_len szH zH fitH allH one_app num32)
open Go.Proofs.Ytghogoijjaiccaa.Sa (Sta scs scs_len scs_one zs zs_ok scs_app staB staB_len SRt rdS rdS_ok sz_sta z_sta sz_rsta z_rsta fitS allS)
set_option linter.unusedVariables false
set_option linter.unusedSimpArgs false

theorem run_op_eqlBB {o : Oper} {a : Act} (x y : Operand) (t' : TypeId) (ho : o.op = .binOp .eql 4 x y t') (p q : Bool) (hx : a.eval x = .bool p) (hy : a.eval y = .bool q) (r : Bool) (hr : (p == q) = r) (w : World) : (execOp a.eval o).run Try.prog w = .ok (.value (.bool r)) w := by
  subst hr
  unfold execOp
  cases p <;> cases q <;> simp only [ho, hx, hy] <;> kernel_rfl
theorem run_op_neqBB {o : Oper} {a : Act} (x y : Operand) (t' : TypeId) (ho : o.op = .binOp .neq 4 x y t') (p q : Bool) (hx : a.eval x = .bool p) (hy : a.eval y = .bool q) (r : Bool) (hr : (p != q) = r) (w : World) : (execOp a.eval o).run Try.prog w = .ok (.value (.bool r)) w := by
  subst hr
  unfold execOp
  cases p <;> cases q <;> simp only [ho, hx, hy] <;> kernel_rfl
/-- With something of another one, as what Right answers. -/
theorem mrB_eq {m : Msg} {b : Bool} (h : MRt m ↔ b = true) : mrB m = b := by
  cases b
  · exact mrB_false (fun g => Bool.false_ne_true (h.1 g))
  · exact mrB_true (h.2 rfl)
theorem zh_built : Try.prog.built 24 [] = some (u8s zh).toArray := by kernel_rfl
theorem set_sta_ok {s : Sta} (k : s.Ok) {x : List Nat} (hx : H32 x) : ({ s with led := x } : Sta).Ok := ⟨k.prev, hx, k.draw, k.slot, k.len, k.count, k.min, k.last, k.counts, k.clt, k.now, k.next⟩
theorem set_path_ok {L : List (List Nat)} (h : P4 L) {x : List Nat} (hx : H32 x) : P4 (L.set 0 x) := ⟨all_set h.ok hx 0, by rw [List.length_set]; exact h.len⟩
set_option maxHeartbeats 4000000 in
set_option maxRecDepth 100000 in
theorem messageOdd_any (m : Msg) (v : Nat) (l : List Nat) (pl : Int) (a : Acct) (d : List Nat) (w : World) (k : m.Ok) (hv : v < 4294967296) (hl : H32 l) (hp0 : -9223372036854775808 ≤ pl) (hp1 : pl ≤ 9223372036854775807) (ka : a.Ok) (hd : H32 d) :
    Calls Try.prog 5 #[.agg (mcs m).toArray, .int .u32 (v : Int), .agg (u8s l).toArray, .int .i64 pl, .agg (acs a).toArray, .agg (u8s d).toArray] w fun e w' => e = .returned (.bool true) ∧ Below w.heap.size w w' := by
  have K := Lib.hid k; have KL := Lib.hid hl; have KA := Lib.hid ka; have KD := Lib.hid hd
  have CA := Lib.hid (fun w0 => awake17_any w0)
  have CN := Lib.hid (m_nm k.st).get
  have CNA : Hid ((acs a)[0]? = some (.string a.nm)) := Lib.hid rfl
  have CK := Lib.hid (m_kind m).get
  have SX := Lib.hid (sz_msg k)
  have CR := Lib.hid (fun w0 => mright_any m w0 k)
  have HSET1 : Hid ((mcs m).set 1 (.int .u32 (v : Int)) = mcs { m with ver := v }) := Lib.hid (set_ver k v)
  have HSET2 : Hid (lay (mcs m) 34 (u8s l) = mcs { m with st := { m.st with led := l } }) := Lib.hid (lay_led k.st hl)
  have HSET3 : Hid ((mcs m).set 365 (.int .i64 pl) = mcs { m with pl := pl }) := Lib.hid (set_pl k pl)
  have HSET4 : Hid (lay (mcs m) 366 (acs a) = mcs { m with acc := a }) := Lib.hid (lay_acc k.st a)
  have HSET5 : Hid (lay (mcs m) 369 (u8s d) = mcs { m with path := m.path.set 0 d }) := Lib.hid (lay_dig (i := 0) k.st k.path hd (by decide))
  have K1 : Hid (({ m with ver := v } : Msg).Ok) := Lib.hid ⟨k.kind, hv, k.st, k.lo, k.hi, k.acc, k.path⟩
  have K2 : Hid (({ m with st := { m.st with led := l } } : Msg).Ok) := Lib.hid ⟨k.kind, k.ver, set_sta_ok k.st hl, k.lo, k.hi, k.acc, k.path⟩
  have K3 : Hid (({ m with pl := pl } : Msg).Ok) := Lib.hid ⟨k.kind, k.ver, k.st, hp0, by show pl < _; omega, k.acc, k.path⟩
  have K4 : Hid (({ m with acc := a } : Msg).Ok) := Lib.hid ⟨k.kind, k.ver, k.st, k.lo, k.hi, ka, k.path⟩
  have K5 : Hid (({ m with path := m.path.set 0 d } : Msg).Ok) := Lib.hid ⟨k.kind, k.ver, k.st, k.lo, k.hi, k.acc, set_path_ok k.path hd⟩
  have HO1 := Lib.hid (fun h hk => @odd_ver m h hk v); have HO2 := Lib.hid (fun h hk => @odd_st m h hk l); have HO3 := Lib.hid (fun h hk => @odd_pl m h hk pl); have HO4 := Lib.hid (fun h hk => @odd_acc m h hk a); have HO5 := Lib.hid (fun h hk => @odd_path m h hk d)
  obtain ⟨m1, hm1⟩ : ∃ x, x = ({ m with ver := v } : Msg) := ⟨_, rfl⟩
  obtain ⟨m2, hm2⟩ : ∃ x, x = ({ m with st := { m.st with led := l } } : Msg) := ⟨_, rfl⟩
  obtain ⟨m3, hm3⟩ : ∃ x, x = ({ m with pl := pl } : Msg) := ⟨_, rfl⟩
  obtain ⟨m4, hm4⟩ : ∃ x, x = ({ m with acc := a } : Msg) := ⟨_, rfl⟩
  obtain ⟨m5, hm5⟩ : ∃ x, x = ({ m with path := m.path.set 0 d } : Msg) := ⟨_, rfl⟩
  rw [← hm1] at HSET1 K1 HO1
  rw [← hm2] at HSET2 K2 HO2
  rw [← hm3] at HSET3 K3 HO3
  rw [← hm4] at HSET4 K4 HO4
  rw [← hm5] at HSET5 K5 HO5
  obtain ⟨q, hq⟩ : ∃ q, q = m.kind := ⟨_, rfl⟩
  have HQ : Hid (MRt m → 1 ≤ q ∧ q ≤ 4) := Lib.hid fun h => by rw [hq]; exact h.1
  rw [← hq] at CK HO1 HO2 HO3 HO4 HO5
  obtain ⟨s, hs⟩ : ∃ s, s = m.acc.nm := ⟨_, rfl⟩
  rw [← hs] at CN
  obtain ⟨s2, hs2⟩ : ∃ s, s = a.nm := ⟨_, rfl⟩
  rw [← hs2] at CNA
  clear hm1 hm2 hm3 hm4 hm5 hq hs hs2 k hl hp0 hp1 ka hd
  by_cases h1 : 1000 < s.size
  · have d1 : decide ((1000 : Int) < (s.size : Int)) = true := decide_eq_true (by omega)
    have d1' : decide (1000 < s.size) = true := decide_eq_true (by omega)
    clear h1
    go_enter Try.func5, Try.ntmps5
    go_wp2_with (first
      | ((with_reducible refine at_slot 6 ?_); (refine arm_box (o := ⟨some 6, _, _, _, _, _⟩) rfl _ _ rfl (mcs m) rfl ?_); intro X v1 Xe hv1 nv1; try simp only [Act.put, List.setIfInBounds_toArray, List.set_cons_zero, List.set_cons_succ])
      | ((with_reducible refine at_slot 8 ?_); (refine arm_box (o := ⟨some 8, _, _, _, _, _⟩) rfl _ _ rfl (u8s l) rfl ?_); intro E v2 Ee hv2 nv2; try simp only [Act.put, List.setIfInBounds_toArray, List.set_cons_zero, List.set_cons_succ])
      | ((with_reducible refine at_slot 10 ?_); (refine arm_box (o := ⟨some 10, _, _, _, _, _⟩) rfl _ _ rfl (acs a) rfl ?_); intro A v3 Ae hv3 nv3; try simp only [Act.put, List.setIfInBounds_toArray, List.set_cons_zero, List.set_cons_succ])
      | ((with_reducible refine at_slot 11 ?_); (refine arm_box (o := ⟨some 11, _, _, _, _, _⟩) rfl _ _ rfl (u8s d) rfl ?_); intro D v4 De hv4 nv4; try simp only [Act.put, List.setIfInBounds_toArray, List.set_cons_zero, List.set_cons_succ]))
    have hbv1 := nv1.below
    have rrv1 : Row v1 X 42 (mcs m) := hv1
    have hbv2 := nv2.below
    have rrv2 : Row v2 E 24 (u8s l) := hv2
    have hbv3 := nv3.below
    have rrv3 : Row v3 A 38 (acs a) := hv3
    have hbv4 := nv4.below
    have rrv4 : Row v4 D 24 (u8s d) := hv4
    have geX : w.heap.size ≤ X := by have := Xe.out; omega
    have lXx : w.heap.size ≤ X := by have := Xe.out; omega
    clear hv1 nv1 Xe
    have bel_5 : Below w.heap.size w v1 := hbv1
    clear hbv1
    have geE : w.heap.size ≤ E := by have := Ee.out; have := bel_5.size; omega
    have ltXE : X < E := by have := Ee.out; have := rrv1.lt; omega
    have lEx : v1.heap.size ≤ E := by have := Ee.out; omega
    clear hv2 nv2 Ee
    have X_6 : Row v2 X 42 (mcs m) := rrv1.old hbv2
    have bel_6 : Below w.heap.size w v2 := below_step bel_5 bel_5.size hbv2
    clear rrv1 bel_5 hbv2
    have geA : w.heap.size ≤ A := by have := Ae.out; have := bel_6.size; omega
    have ltEA : E < A := by have := Ae.out; have := rrv2.lt; omega
    have lAx : v2.heap.size ≤ A := by have := Ae.out; omega
    clear hv3 nv3 Ae
    have X_7 : Row v3 X 42 (mcs m) := X_6.old hbv3
    have E_7 : Row v3 E 24 (u8s l) := rrv2.old hbv3
    have bel_7 : Below w.heap.size w v3 := below_step bel_6 bel_6.size hbv3
    clear X_6 rrv2 bel_6 hbv3
    have geD : w.heap.size ≤ D := by have := De.out; have := bel_7.size; omega
    have ltAD : A < D := by have := De.out; have := rrv3.lt; omega
    have lDx : v3.heap.size ≤ D := by have := De.out; omega
    clear hv4 nv4 De
    have X_8 : Row v4 X 42 (mcs m) := X_7.old hbv4
    have E_8 : Row v4 E 24 (u8s l) := E_7.old hbv4
    have A_8 : Row v4 A 38 (acs a) := rrv3.old hbv4
    have bel_8 : Below w.heap.size w v4 := below_step bel_7 bel_7.size hbv4
    clear X_7 E_7 rrv3 bel_7 hbv4
    refine (CA.out _).mono ?_
    rintro e y9 ⟨rfl, hB⟩
    have X_10 : Row y9 X 42 (mcs m) := X_8.old hB
    have E_10 : Row y9 E 24 (u8s l) := E_8.old hB
    have A_10 : Row y9 A 38 (acs a) := A_8.old hB
    have D_10 : Row y9 D 24 (u8s d) := rrv4.old hB
    have bel_10 : Below w.heap.size w y9 := below_step bel_8 bel_8.size hB
    clear X_8 E_8 A_8 rrv4 bel_8 hB
    have cn := X_10.cell CN.out; have cna := A_10.cell CNA.out
    go_wp2_with fail
    go_ret
    exact ⟨rfl, bel_10⟩
  · have d1 : decide ((1000 : Int) < (s.size : Int)) = false := decide_eq_false (by omega)
    have d1' : decide (1000 < s.size) = false := decide_eq_false (by omega)
    by_cases h2 : 1000 < s2.size
    · have d2 : decide ((1000 : Int) < (s2.size : Int)) = true := decide_eq_true (by omega)
      have d2' : decide (1000 < s2.size) = true := decide_eq_true (by omega)
      clear h1 h2
      go_enter Try.func5, Try.ntmps5
      go_wp2_with (first
        | ((with_reducible refine at_slot 6 ?_); (refine arm_box (o := ⟨some 6, _, _, _, _, _⟩) rfl _ _ rfl (mcs m) rfl ?_); intro X v1 Xe hv1 nv1; try simp only [Act.put, List.setIfInBounds_toArray, List.set_cons_zero, List.set_cons_succ])
        | ((with_reducible refine at_slot 8 ?_); (refine arm_box (o := ⟨some 8, _, _, _, _, _⟩) rfl _ _ rfl (u8s l) rfl ?_); intro E v2 Ee hv2 nv2; try simp only [Act.put, List.setIfInBounds_toArray, List.set_cons_zero, List.set_cons_succ])
        | ((with_reducible refine at_slot 10 ?_); (refine arm_box (o := ⟨some 10, _, _, _, _, _⟩) rfl _ _ rfl (acs a) rfl ?_); intro A v3 Ae hv3 nv3; try simp only [Act.put, List.setIfInBounds_toArray, List.set_cons_zero, List.set_cons_succ])
        | ((with_reducible refine at_slot 11 ?_); (refine arm_box (o := ⟨some 11, _, _, _, _, _⟩) rfl _ _ rfl (u8s d) rfl ?_); intro D v4 De hv4 nv4; try simp only [Act.put, List.setIfInBounds_toArray, List.set_cons_zero, List.set_cons_succ]))
      have hbv1 := nv1.below
      have rrv1 : Row v1 X 42 (mcs m) := hv1
      have hbv2 := nv2.below
      have rrv2 : Row v2 E 24 (u8s l) := hv2
      have hbv3 := nv3.below
      have rrv3 : Row v3 A 38 (acs a) := hv3
      have hbv4 := nv4.below
      have rrv4 : Row v4 D 24 (u8s d) := hv4
      have geX : w.heap.size ≤ X := by have := Xe.out; omega
      have lXx : w.heap.size ≤ X := by have := Xe.out; omega
      clear hv1 nv1 Xe
      have bel_5 : Below w.heap.size w v1 := hbv1
      clear hbv1
      have geE : w.heap.size ≤ E := by have := Ee.out; have := bel_5.size; omega
      have ltXE : X < E := by have := Ee.out; have := rrv1.lt; omega
      have lEx : v1.heap.size ≤ E := by have := Ee.out; omega
      clear hv2 nv2 Ee
      have X_6 : Row v2 X 42 (mcs m) := rrv1.old hbv2
      have bel_6 : Below w.heap.size w v2 := below_step bel_5 bel_5.size hbv2
      clear rrv1 bel_5 hbv2
      have geA : w.heap.size ≤ A := by have := Ae.out; have := bel_6.size; omega
      have ltEA : E < A := by have := Ae.out; have := rrv2.lt; omega
      have lAx : v2.heap.size ≤ A := by have := Ae.out; omega
      clear hv3 nv3 Ae
      have X_7 : Row v3 X 42 (mcs m) := X_6.old hbv3
      have E_7 : Row v3 E 24 (u8s l) := rrv2.old hbv3
      have bel_7 : Below w.heap.size w v3 := below_step bel_6 bel_6.size hbv3
      clear X_6 rrv2 bel_6 hbv3
      have geD : w.heap.size ≤ D := by have := De.out; have := bel_7.size; omega
      have ltAD : A < D := by have := De.out; have := rrv3.lt; omega
      have lDx : v3.heap.size ≤ D := by have := De.out; omega
      clear hv4 nv4 De
      have X_8 : Row v4 X 42 (mcs m) := X_7.old hbv4
      have E_8 : Row v4 E 24 (u8s l) := E_7.old hbv4
      have A_8 : Row v4 A 38 (acs a) := rrv3.old hbv4
      have bel_8 : Below w.heap.size w v4 := below_step bel_7 bel_7.size hbv4
      clear X_7 E_7 rrv3 bel_7 hbv4
      refine (CA.out _).mono ?_
      rintro e y9 ⟨rfl, hB⟩
      have X_10 : Row y9 X 42 (mcs m) := X_8.old hB
      have E_10 : Row y9 E 24 (u8s l) := E_8.old hB
      have A_10 : Row y9 A 38 (acs a) := A_8.old hB
      have D_10 : Row y9 D 24 (u8s d) := rrv4.old hB
      have bel_10 : Below w.heap.size w y9 := below_step bel_8 bel_8.size hB
      clear X_8 E_8 A_8 rrv4 bel_8 hB
      have cn := X_10.cell CN.out; have cna := A_10.cell CNA.out
      go_wp2_with fail
      go_ret
      exact ⟨rfl, bel_10⟩
    · have d2 : decide ((1000 : Int) < (s2.size : Int)) = false := decide_eq_false (by omega)
      have d2' : decide (1000 < s2.size) = false := decide_eq_false (by omega)
      clear h1 h2
      by_cases hr : MRt m
      · have HR := Lib.hid hr
        rw [mrB_true hr] at CR
        have hq4 := HQ.out hr
        have HO1b := Lib.hid (HO1.out hr); have HO2b := Lib.hid (HO2.out hr); have HO3b := Lib.hid (HO3.out hr); have HO4b := Lib.hid (HO4.out hr); have HO5b := Lib.hid (HO5.out hr)
        clear HO1 HO2 HO3 HO4 HO5 hr HQ
        obtain hk | hk | hk | hk : q = 1 ∨ q = 2 ∨ q = 3 ∨ q = 4 := by omega
        · skip
          have n1 : ((q : Int) != 1) = false := by simp; omega
          have n2 : ((q : Int) != 2) = true := by simp; omega
          have n4 : ((q : Int) != 4) = true := by simp; omega
          obtain ⟨b2, hb2⟩ : ∃ b, b = decide (l = zh) := ⟨_, rfl⟩
          have HB2 : Hid (mrB m2 = b2) := Lib.hid (mrB_eq ((HO2b.out (by omega)).trans (by rw [hb2]; simp)))
          have CR2 : Hid (∀ w0, Calls Try.prog 12 #[.agg (mcs m2).toArray] w0 fun e w' => e = .returned (.bool b2) ∧ Below w0.heap.size w0 w') := Lib.hid fun w0 => (mright_any m2 w0 K2.out).mono fun e w' h => ⟨by rw [h.1, HB2.out], h.2⟩
          have HI2 : Hid (b2 = true ↔ l = zh) := Lib.hid (by rw [hb2]; simp)
          have HEB2 : Hid ((b2 == b2) = true) := Lib.hid (by simp)
          clear hb2
          obtain ⟨b3, hb3⟩ : ∃ b, b = decide (pl = 0) := ⟨_, rfl⟩
          have HB3 : Hid (mrB m3 = b3) := Lib.hid (mrB_eq ((HO3b.out (by omega)).trans (by rw [hb3]; simp)))
          have CR3 : Hid (∀ w0, Calls Try.prog 12 #[.agg (mcs m3).toArray] w0 fun e w' => e = .returned (.bool b3) ∧ Below w0.heap.size w0 w') := Lib.hid fun w0 => (mright_any m3 w0 K3.out).mono fun e w' h => ⟨by rw [h.1, HB3.out], h.2⟩
          have HI3 : Hid (decide (pl = 0) = b3) := Lib.hid hb3.symm
          have HEB3 : Hid ((b3 == b3) = true) := Lib.hid (by simp)
          obtain ⟨b4, hb4⟩ : ∃ b : Bool, (b = true ↔ a = za) := ⟨@decide (a = za) (Classical.propDecidable _), @decide_eq_true_iff _ (Classical.propDecidable _)⟩
          have HB4 : Hid (mrB m4 = b4) := Lib.hid (mrB_eq ((HO4b.out (by omega)).trans hb4.symm))
          have CR4 : Hid (∀ w0, Calls Try.prog 12 #[.agg (mcs m4).toArray] w0 fun e w' => e = .returned (.bool b4) ∧ Below w0.heap.size w0 w') := Lib.hid fun w0 => (mright_any m4 w0 K4.out).mono fun e w' h => ⟨by rw [h.1, HB4.out], h.2⟩
          have HI4 := Lib.hid hb4
          have HEB4 : Hid ((b4 == b4) = true) := Lib.hid (by simp)
          obtain ⟨b5, hb5⟩ : ∃ b, b = decide (d = zh) := ⟨_, rfl⟩
          have HB5 : Hid (mrB m5 = b5) := Lib.hid (mrB_eq ((HO5b.out (by omega)).trans (by rw [hb5]; simp)))
          have CR5 : Hid (∀ w0, Calls Try.prog 12 #[.agg (mcs m5).toArray] w0 fun e w' => e = .returned (.bool b5) ∧ Below w0.heap.size w0 w') := Lib.hid fun w0 => (mright_any m5 w0 K5.out).mono fun e w' h => ⟨by rw [h.1, HB5.out], h.2⟩
          have HI5 : Hid (b5 = true ↔ d = zh) := Lib.hid (by rw [hb5]; simp)
          have HEB5 : Hid ((b5 == b5) = true) := Lib.hid (by simp)
          clear hb3 hb4 hb5
          clear hk hq4 HO1b HO2b HO3b HO4b HO5b
          go_enter Try.func5, Try.ntmps5
          go_wp2_with (first
            | ((with_reducible refine at_slot 6 ?_); (refine arm_box (o := ⟨some 6, _, _, _, _, _⟩) rfl _ _ rfl (mcs m) rfl ?_); intro X v1 Xe hv1 nv1; try simp only [Act.put, List.setIfInBounds_toArray, List.set_cons_zero, List.set_cons_succ])
            | ((with_reducible refine at_slot 8 ?_); (refine arm_box (o := ⟨some 8, _, _, _, _, _⟩) rfl _ _ rfl (u8s l) rfl ?_); intro E v2 Ee hv2 nv2; try simp only [Act.put, List.setIfInBounds_toArray, List.set_cons_zero, List.set_cons_succ])
            | ((with_reducible refine at_slot 10 ?_); (refine arm_box (o := ⟨some 10, _, _, _, _, _⟩) rfl _ _ rfl (acs a) rfl ?_); intro A v3 Ae hv3 nv3; try simp only [Act.put, List.setIfInBounds_toArray, List.set_cons_zero, List.set_cons_succ])
            | ((with_reducible refine at_slot 11 ?_); (refine arm_box (o := ⟨some 11, _, _, _, _, _⟩) rfl _ _ rfl (u8s d) rfl ?_); intro D v4 De hv4 nv4; try simp only [Act.put, List.setIfInBounds_toArray, List.set_cons_zero, List.set_cons_succ]))
          have hbv1 := nv1.below
          have rrv1 : Row v1 X 42 (mcs m) := hv1
          have hbv2 := nv2.below
          have rrv2 : Row v2 E 24 (u8s l) := hv2
          have hbv3 := nv3.below
          have rrv3 : Row v3 A 38 (acs a) := hv3
          have hbv4 := nv4.below
          have rrv4 : Row v4 D 24 (u8s d) := hv4
          have geX : w.heap.size ≤ X := by have := Xe.out; omega
          have lXx : w.heap.size ≤ X := by have := Xe.out; omega
          clear hv1 nv1 Xe
          have bel_5 : Below w.heap.size w v1 := hbv1
          clear hbv1
          have geE : w.heap.size ≤ E := by have := Ee.out; have := bel_5.size; omega
          have ltXE : X < E := by have := Ee.out; have := rrv1.lt; omega
          have lEx : v1.heap.size ≤ E := by have := Ee.out; omega
          clear hv2 nv2 Ee
          have X_6 : Row v2 X 42 (mcs m) := rrv1.old hbv2
          have bel_6 : Below w.heap.size w v2 := below_step bel_5 bel_5.size hbv2
          clear rrv1 bel_5 hbv2
          have geA : w.heap.size ≤ A := by have := Ae.out; have := bel_6.size; omega
          have ltEA : E < A := by have := Ae.out; have := rrv2.lt; omega
          have lAx : v2.heap.size ≤ A := by have := Ae.out; omega
          clear hv3 nv3 Ae
          have X_7 : Row v3 X 42 (mcs m) := X_6.old hbv3
          have E_7 : Row v3 E 24 (u8s l) := rrv2.old hbv3
          have bel_7 : Below w.heap.size w v3 := below_step bel_6 bel_6.size hbv3
          clear X_6 rrv2 bel_6 hbv3
          have geD : w.heap.size ≤ D := by have := De.out; have := bel_7.size; omega
          have ltAD : A < D := by have := De.out; have := rrv3.lt; omega
          have lDx : v3.heap.size ≤ D := by have := De.out; omega
          clear hv4 nv4 De
          have X_8 : Row v4 X 42 (mcs m) := X_7.old hbv4
          have E_8 : Row v4 E 24 (u8s l) := E_7.old hbv4
          have A_8 : Row v4 A 38 (acs a) := rrv3.old hbv4
          have bel_8 : Below w.heap.size w v4 := below_step bel_7 bel_7.size hbv4
          clear X_7 E_7 rrv3 bel_7 hbv4
          refine (CA.out _).mono ?_
          rintro e y9 ⟨rfl, hB⟩
          have X_10 : Row y9 X 42 (mcs m) := X_8.old hB
          have E_10 : Row y9 E 24 (u8s l) := E_8.old hB
          have A_10 : Row y9 A 38 (acs a) := A_8.old hB
          have D_10 : Row y9 D 24 (u8s d) := rrv4.old hB
          have bel_10 : Below w.heap.size w y9 := below_step bel_8 bel_8.size hB
          clear X_8 E_8 A_8 rrv4 bel_8 hB
          have cn := X_10.cell CN.out; have cna := A_10.cell CNA.out
          go_wp2_with (first
            | ((with_reducible refine at_slot 33 ?_); (refine arm_want (.agg (mcs m).toArray) 33 rfl (by kernel_rfl) (run_op_load _ _ rfl X 0 rfl (mcs m) ((Has.refl _).range X_10) SX.out) ?_); try simp only [Act.put, List.setIfInBounds_toArray, List.set_cons_zero, List.set_cons_succ]))
          refine (CR.out _).mono ?_
          rintro e y11 ⟨rfl, hB⟩
          have X_12 : Row y11 X 42 (mcs m) := X_10.old hB
          have E_12 : Row y11 E 24 (u8s l) := E_10.old hB
          have A_12 : Row y11 A 38 (acs a) := A_10.old hB
          have D_12 : Row y11 D 24 (u8s d) := D_10.old hB
          have bel_12 : Below w.heap.size w y11 := below_step bel_10 bel_10.size hB
          clear X_10 E_10 A_10 D_10 bel_10 hB
          clear cn cna
          go_wp2_with fail
          refine wp_region_held (S := fun w' => Row w' X 42 (mcs m) ∧ True) (by kernel_rfl) ?_
          change wpAnyH _ _ _ _ _ _ _ _ y11.drew
          have hd13 : Below y11.heap.size y11 y11.drew := (Below.refl _ _).drew
          have X_14 : Row y11.drew X 42 (mcs m) := X_12.old hd13
          have E_14 : Row y11.drew E 24 (u8s l) := E_12.old hd13
          have A_14 : Row y11.drew A 38 (acs a) := A_12.old hd13
          have D_14 : Row y11.drew D 24 (u8s d) := D_12.old hd13
          have bel_14 : Below w.heap.size w y11.drew := below_step bel_12 bel_12.size hd13
          clear X_12 E_12 A_12 D_12 bel_12 hd13
          generalize y11.drew = yz13 at X_14 E_14 A_14 D_14 bel_14 ⊢
          refine h_take 0 (.agg (mcs m).toArray) rfl 37 rfl (by kernel_rfl) (by kernel_rfl) (by kernel_rfl) (by kernel_rfl) (fun _ _ _ h => h) (fun w' hw => run_op_load _ _ rfl X (0) rfl (mcs m) (((Has.refl _)).range hw.1) (SX.out)) ⟨X_14, trivial⟩ ?_
          simp only [Act.put, List.setIfInBounds_toArray, List.set_cons_zero, List.set_cons_succ]
          refine h_take 1 (.agg (mcs m).toArray) rfl 38 rfl (by kernel_rfl) (by kernel_rfl) (by kernel_rfl) (by kernel_rfl) (fun _ _ _ h => h) (fun w' hw => run_op_load _ _ rfl X (0) rfl (mcs m) (((Has.refl _)).range hw.1) (SX.out)) ⟨X_14, trivial⟩ ?_
          simp only [Act.put, List.setIfInBounds_toArray, List.set_cons_zero, List.set_cons_succ]
          refine h_take 2 (.agg (mcs m).toArray) rfl 39 rfl (by kernel_rfl) (by kernel_rfl) (by kernel_rfl) (by kernel_rfl) (fun _ _ _ h => h) (fun w' hw => run_op_load _ _ rfl X (0) rfl (mcs m) (((Has.refl _)).range hw.1) (SX.out)) ⟨X_14, trivial⟩ ?_
          simp only [Act.put, List.setIfInBounds_toArray, List.set_cons_zero, List.set_cons_succ]
          refine h_take 3 (.agg (mcs m).toArray) rfl 40 rfl (by kernel_rfl) (by kernel_rfl) (by kernel_rfl) (by kernel_rfl) (fun _ _ _ h => h) (fun w' hw => run_op_load _ _ rfl X (0) rfl (mcs m) (((Has.refl _)).range hw.1) (SX.out)) ⟨X_14, trivial⟩ ?_
          simp only [Act.put, List.setIfInBounds_toArray, List.set_cons_zero, List.set_cons_succ]
          refine h_take 4 (.agg (mcs m).toArray) rfl 41 rfl (by kernel_rfl) (by kernel_rfl) (by kernel_rfl) (by kernel_rfl) (fun _ _ _ h => h) (fun w' hw => run_op_load _ _ rfl X (0) rfl (mcs m) (((Has.refl _)).range hw.1) (SX.out)) ⟨X_14, trivial⟩ ?_
          simp only [Act.put, List.setIfInBounds_toArray, List.set_cons_zero, List.set_cons_succ]
          have lX := X_14.lt; have lE := E_14.lt; have lA := A_14.lt; have lD := D_14.lt
          refine h_allocsN (S := _) 42 (mcs zm) z_msg 5 [(5, 13), (6, 14), (7, 15), (8, 16), (9, 17)] _ _ _ _ rfl (by kernel_rfl) (fun p hp => by
            simp only [List.mem_cons, List.not_mem_nil, or_false] at hp
            rcases hp with rfl | rfl | rfl | rfl | rfl <;> exact ⟨_, rfl, rfl, rfl, rfl⟩) (by decide) (by decide) (fun w' hb => ⟨X_14.old hb, trivial⟩) ?_
          intro bs y50 hbl hbn hbr hB50
          obtain ⟨B1, B2, B3, B4, B5, rfl⟩ : ∃ B1 B2 B3 B4 B5, bs = [B1, B2, B3, B4, B5] := by
            match bs, hbl with
            | [B1, B2, B3, B4, B5], _ => exact ⟨B1, B2, B3, B4, B5, rfl⟩
          simp only [List.nodup_cons, List.mem_cons, List.not_mem_nil, or_false, not_or] at hbn
          obtain ⟨⟨x12, x13, x14, x15⟩, ⟨x23, x24, x25⟩, ⟨x34, x35⟩, x45, _⟩ := hbn
          obtain ⟨g1, r1⟩ := hbr B1 (by simp)
          obtain ⟨g2, r2⟩ := hbr B2 (by simp)
          obtain ⟨g3, r3⟩ := hbr B3 (by simp)
          obtain ⟨g4, r4⟩ := hbr B4 (by simp)
          obtain ⟨g5, r5⟩ := hbr B5 (by simp)
          clear hbr hbl
          have zw := bel_14.size
          have geB1 : w.heap.size ≤ B1 := Nat.le_trans zw g1
          have neXB1 : X ≠ B1 := Nat.ne_of_lt (Nat.lt_of_lt_of_le lX g1)
          have neEB1 : E ≠ B1 := Nat.ne_of_lt (Nat.lt_of_lt_of_le lE g1)
          have neAB1 : A ≠ B1 := Nat.ne_of_lt (Nat.lt_of_lt_of_le lA g1)
          have neDB1 : D ≠ B1 := Nat.ne_of_lt (Nat.lt_of_lt_of_le lD g1)
          have geB2 : w.heap.size ≤ B2 := Nat.le_trans zw g2
          have neXB2 : X ≠ B2 := Nat.ne_of_lt (Nat.lt_of_lt_of_le lX g2)
          have neEB2 : E ≠ B2 := Nat.ne_of_lt (Nat.lt_of_lt_of_le lE g2)
          have neAB2 : A ≠ B2 := Nat.ne_of_lt (Nat.lt_of_lt_of_le lA g2)
          have neDB2 : D ≠ B2 := Nat.ne_of_lt (Nat.lt_of_lt_of_le lD g2)
          have geB3 : w.heap.size ≤ B3 := Nat.le_trans zw g3
          have neXB3 : X ≠ B3 := Nat.ne_of_lt (Nat.lt_of_lt_of_le lX g3)
          have neEB3 : E ≠ B3 := Nat.ne_of_lt (Nat.lt_of_lt_of_le lE g3)
          have neAB3 : A ≠ B3 := Nat.ne_of_lt (Nat.lt_of_lt_of_le lA g3)
          have neDB3 : D ≠ B3 := Nat.ne_of_lt (Nat.lt_of_lt_of_le lD g3)
          have geB4 : w.heap.size ≤ B4 := Nat.le_trans zw g4
          have neXB4 : X ≠ B4 := Nat.ne_of_lt (Nat.lt_of_lt_of_le lX g4)
          have neEB4 : E ≠ B4 := Nat.ne_of_lt (Nat.lt_of_lt_of_le lE g4)
          have neAB4 : A ≠ B4 := Nat.ne_of_lt (Nat.lt_of_lt_of_le lA g4)
          have neDB4 : D ≠ B4 := Nat.ne_of_lt (Nat.lt_of_lt_of_le lD g4)
          have geB5 : w.heap.size ≤ B5 := Nat.le_trans zw g5
          have neXB5 : X ≠ B5 := Nat.ne_of_lt (Nat.lt_of_lt_of_le lX g5)
          have neEB5 : E ≠ B5 := Nat.ne_of_lt (Nat.lt_of_lt_of_le lE g5)
          have neAB5 : A ≠ B5 := Nat.ne_of_lt (Nat.lt_of_lt_of_le lA g5)
          have neDB5 : D ≠ B5 := Nat.ne_of_lt (Nat.lt_of_lt_of_le lD g5)
          clear zw lX lE lA lD g1 g2 g3 g4 g5
          have X_15 : Row y50 X 42 (mcs m) := X_14.old hB50
          have E_15 : Row y50 E 24 (u8s l) := E_14.old hB50
          have A_15 : Row y50 A 38 (acs a) := A_14.old hB50
          have D_15 : Row y50 D 24 (u8s d) := D_14.old hB50
          have bel_15 : Below w.heap.size w y50 := below_step bel_14 bel_14.size hB50
          clear X_14 E_14 A_14 D_14 bel_14 hB50
          simp only [List.foldl_cons, List.foldl_nil, List.zip_cons_cons, List.zip_nil_right, setA, putA]
          try simp only [Act.put, List.setIfInBounds_toArray, List.set_cons_zero, List.set_cons_succ]
          refine h_one (i := 10) (by kernel_rfl) (o_skip rfl rfl (by kernel_rfl) (run_op_store _ _ _ rfl B1 (0) rfl (mcs m) rfl _ _ r1 (fitM K.out) (mcs_one _) SX.out) ?_)
          have rq := row_setRow r1 (lay (mcs zm) (0) (mcs m))
          have oq := Only.setRow B1 y50 (lay (mcs zm) (0) (mcs m)).toArray
          generalize y50.setRow B1 (lay (mcs zm) (0) (mcs m)).toArray = y16 at rq oq ⊢
          have X_17 : Row y16 X 42 (mcs m) := X_15.only oq neXB1
          have E_17 : Row y16 E 24 (u8s l) := E_15.only oq neEB1
          have A_17 : Row y16 A 38 (acs a) := A_15.only oq neAB1
          have D_17 : Row y16 D 24 (u8s d) := D_15.only oq neDB1
          have B1_17 : Row y16 B1 42 (mcs m) := rq.congr (allM K.out)
          have B2_17 : Row y16 B2 42 (mcs zm) := r2.only oq (Ne.symm x12)
          have B3_17 : Row y16 B3 42 (mcs zm) := r3.only oq (Ne.symm x13)
          have B4_17 : Row y16 B4 42 (mcs zm) := r4.only oq (Ne.symm x14)
          have B5_17 : Row y16 B5 42 (mcs zm) := r5.only oq (Ne.symm x15)
          have bel_17 : Below w.heap.size w y16 := below_only bel_15 oq geB1 bel_15.size
          clear X_15 E_15 A_15 D_15 r1 r2 r3 r4 r5 bel_15 oq
          clear rq
          refine ⟨⟨X_17, trivial⟩, ?_⟩
          refine h_one (i := 11) (by kernel_rfl) (o_skip rfl rfl (by kernel_rfl) (run_op_store _ _ _ rfl B2 (0) rfl (mcs m) rfl _ _ B2_17 (fitM K.out) (mcs_one _) SX.out) ?_)
          have rq := row_setRow B2_17 (lay (mcs zm) (0) (mcs m))
          have oq := Only.setRow B2 y16 (lay (mcs zm) (0) (mcs m)).toArray
          generalize y16.setRow B2 (lay (mcs zm) (0) (mcs m)).toArray = y18 at rq oq ⊢
          have X_19 : Row y18 X 42 (mcs m) := X_17.only oq neXB2
          have E_19 : Row y18 E 24 (u8s l) := E_17.only oq neEB2
          have A_19 : Row y18 A 38 (acs a) := A_17.only oq neAB2
          have D_19 : Row y18 D 24 (u8s d) := D_17.only oq neDB2
          have B1_19 : Row y18 B1 42 (mcs m) := B1_17.only oq x12
          have B2_19 : Row y18 B2 42 (mcs m) := rq.congr (allM K.out)
          have B3_19 : Row y18 B3 42 (mcs zm) := B3_17.only oq (Ne.symm x23)
          have B4_19 : Row y18 B4 42 (mcs zm) := B4_17.only oq (Ne.symm x24)
          have B5_19 : Row y18 B5 42 (mcs zm) := B5_17.only oq (Ne.symm x25)
          have bel_19 : Below w.heap.size w y18 := below_only bel_17 oq geB2 bel_17.size
          clear X_17 E_17 A_17 D_17 B1_17 B2_17 B3_17 B4_17 B5_17 bel_17 oq
          clear rq
          refine ⟨⟨X_19, trivial⟩, ?_⟩
          refine h_one (i := 12) (by kernel_rfl) (o_skip rfl rfl (by kernel_rfl) (run_op_store _ _ _ rfl B3 (0) rfl (mcs m) rfl _ _ B3_19 (fitM K.out) (mcs_one _) SX.out) ?_)
          have rq := row_setRow B3_19 (lay (mcs zm) (0) (mcs m))
          have oq := Only.setRow B3 y18 (lay (mcs zm) (0) (mcs m)).toArray
          generalize y18.setRow B3 (lay (mcs zm) (0) (mcs m)).toArray = y20 at rq oq ⊢
          have X_21 : Row y20 X 42 (mcs m) := X_19.only oq neXB3
          have E_21 : Row y20 E 24 (u8s l) := E_19.only oq neEB3
          have A_21 : Row y20 A 38 (acs a) := A_19.only oq neAB3
          have D_21 : Row y20 D 24 (u8s d) := D_19.only oq neDB3
          have B1_21 : Row y20 B1 42 (mcs m) := B1_19.only oq x13
          have B2_21 : Row y20 B2 42 (mcs m) := B2_19.only oq x23
          have B3_21 : Row y20 B3 42 (mcs m) := rq.congr (allM K.out)
          have B4_21 : Row y20 B4 42 (mcs zm) := B4_19.only oq (Ne.symm x34)
          have B5_21 : Row y20 B5 42 (mcs zm) := B5_19.only oq (Ne.symm x35)
          have bel_21 : Below w.heap.size w y20 := below_only bel_19 oq geB3 bel_19.size
          clear X_19 E_19 A_19 D_19 B1_19 B2_19 B3_19 B4_19 B5_19 bel_19 oq
          clear rq
          refine ⟨⟨X_21, trivial⟩, ?_⟩
          refine h_one (i := 13) (by kernel_rfl) (o_skip rfl rfl (by kernel_rfl) (run_op_store _ _ _ rfl B4 (0) rfl (mcs m) rfl _ _ B4_21 (fitM K.out) (mcs_one _) SX.out) ?_)
          have rq := row_setRow B4_21 (lay (mcs zm) (0) (mcs m))
          have oq := Only.setRow B4 y20 (lay (mcs zm) (0) (mcs m)).toArray
          generalize y20.setRow B4 (lay (mcs zm) (0) (mcs m)).toArray = y22 at rq oq ⊢
          have X_23 : Row y22 X 42 (mcs m) := X_21.only oq neXB4
          have E_23 : Row y22 E 24 (u8s l) := E_21.only oq neEB4
          have A_23 : Row y22 A 38 (acs a) := A_21.only oq neAB4
          have D_23 : Row y22 D 24 (u8s d) := D_21.only oq neDB4
          have B1_23 : Row y22 B1 42 (mcs m) := B1_21.only oq x14
          have B2_23 : Row y22 B2 42 (mcs m) := B2_21.only oq x24
          have B3_23 : Row y22 B3 42 (mcs m) := B3_21.only oq x34
          have B4_23 : Row y22 B4 42 (mcs m) := rq.congr (allM K.out)
          have B5_23 : Row y22 B5 42 (mcs zm) := B5_21.only oq (Ne.symm x45)
          have bel_23 : Below w.heap.size w y22 := below_only bel_21 oq geB4 bel_21.size
          clear X_21 E_21 A_21 D_21 B1_21 B2_21 B3_21 B4_21 B5_21 bel_21 oq
          clear rq
          refine ⟨⟨X_23, trivial⟩, ?_⟩
          refine h_one (i := 14) (by kernel_rfl) (o_skip rfl rfl (by kernel_rfl) (run_op_store _ _ _ rfl B5 (0) rfl (mcs m) rfl _ _ B5_23 (fitM K.out) (mcs_one _) SX.out) ?_)
          have rq := row_setRow B5_23 (lay (mcs zm) (0) (mcs m))
          have oq := Only.setRow B5 y22 (lay (mcs zm) (0) (mcs m)).toArray
          generalize y22.setRow B5 (lay (mcs zm) (0) (mcs m)).toArray = y24 at rq oq ⊢
          have X_25 : Row y24 X 42 (mcs m) := X_23.only oq neXB5
          have E_25 : Row y24 E 24 (u8s l) := E_23.only oq neEB5
          have A_25 : Row y24 A 38 (acs a) := A_23.only oq neAB5
          have D_25 : Row y24 D 24 (u8s d) := D_23.only oq neDB5
          have B1_25 : Row y24 B1 42 (mcs m) := B1_23.only oq x15
          have B2_25 : Row y24 B2 42 (mcs m) := B2_23.only oq x25
          have B3_25 : Row y24 B3 42 (mcs m) := B3_23.only oq x35
          have B4_25 : Row y24 B4 42 (mcs m) := B4_23.only oq x45
          have B5_25 : Row y24 B5 42 (mcs m) := rq.congr (allM K.out)
          have bel_25 : Below w.heap.size w y24 := below_only bel_23 oq geB5 bel_23.size
          clear X_23 E_23 A_23 D_23 B1_23 B2_23 B3_23 B4_23 B5_23 bel_23 oq
          clear rq
          refine ⟨⟨X_25, trivial⟩, ?_⟩
          refine wpAnyH_done (by kernel_rfl) ?_ _
          go_wp2_with fail
          refine wp_region_held (S := fun w' => Row w' E 24 (u8s l) ∧ Row w' A 38 (acs a) ∧ Row w' D 24 (u8s d) ∧ True) (by kernel_rfl) ?_
          change wpAnyH _ _ _ _ _ _ _ _ y24.drew
          have hd26 : Below y24.heap.size y24 y24.drew := (Below.refl _ _).drew
          have X_27 : Row y24.drew X 42 (mcs m) := X_25.old hd26
          have E_27 : Row y24.drew E 24 (u8s l) := E_25.old hd26
          have A_27 : Row y24.drew A 38 (acs a) := A_25.old hd26
          have D_27 : Row y24.drew D 24 (u8s d) := D_25.old hd26
          have B1_27 : Row y24.drew B1 42 (mcs m) := B1_25.old hd26
          have B2_27 : Row y24.drew B2 42 (mcs m) := B2_25.old hd26
          have B3_27 : Row y24.drew B3 42 (mcs m) := B3_25.old hd26
          have B4_27 : Row y24.drew B4 42 (mcs m) := B4_25.old hd26
          have B5_27 : Row y24.drew B5 42 (mcs m) := B5_25.old hd26
          have bel_27 : Below w.heap.size w y24.drew := below_step bel_25 bel_25.size hd26
          clear X_25 E_25 A_25 D_25 B1_25 B2_25 B3_25 B4_25 B5_25 bel_25 hd26
          generalize y24.drew = yz26 at X_27 E_27 A_27 D_27 B1_27 B2_27 B3_27 B4_27 B5_27 bel_27 ⊢
          refine h_take 0 (.int .u32 (v : Int)) rfl 42 rfl (by kernel_rfl) (by kernel_rfl) (by kernel_rfl) (by kernel_rfl) (fun _ _ _ h => h) (fun w' _ => by kernel_rfl) ⟨E_27, A_27, D_27, trivial⟩ ?_
          simp only [Act.put, List.setIfInBounds_toArray, List.set_cons_zero, List.set_cons_succ]
          refine h_take 1 (.agg (u8s l).toArray) rfl 43 rfl (by kernel_rfl) (by kernel_rfl) (by kernel_rfl) (by kernel_rfl) (fun _ _ _ h => h) (fun w' hw => run_op_load _ _ rfl E (0) rfl (u8s l) (((Has.refl _)).range hw.1) ((szH KL.out))) ⟨E_27, A_27, D_27, trivial⟩ ?_
          simp only [Act.put, List.setIfInBounds_toArray, List.set_cons_zero, List.set_cons_succ]
          refine h_take 2 (.int .i64 pl) rfl 44 rfl (by kernel_rfl) (by kernel_rfl) (by kernel_rfl) (by kernel_rfl) (fun _ _ _ h => h) (fun w' _ => by kernel_rfl) ⟨E_27, A_27, D_27, trivial⟩ ?_
          simp only [Act.put, List.setIfInBounds_toArray, List.set_cons_zero, List.set_cons_succ]
          refine h_take 3 (.agg (acs a).toArray) rfl 45 rfl (by kernel_rfl) (by kernel_rfl) (by kernel_rfl) (by kernel_rfl) (fun _ _ _ h => h) (fun w' hw => run_op_load _ _ rfl A (0) rfl (acs a) (((Has.refl _)).range hw.2.1) ((sz_acc a))) ⟨E_27, A_27, D_27, trivial⟩ ?_
          simp only [Act.put, List.setIfInBounds_toArray, List.set_cons_zero, List.set_cons_succ]
          refine h_take 4 (.agg (u8s d).toArray) rfl 46 rfl (by kernel_rfl) (by kernel_rfl) (by kernel_rfl) (by kernel_rfl) (fun _ _ _ h => h) (fun w' hw => run_op_load _ _ rfl D (0) rfl (u8s d) (((Has.refl _)).range hw.2.2.1) ((szH KD.out))) ⟨E_27, A_27, D_27, trivial⟩ ?_
          simp only [Act.put, List.setIfInBounds_toArray, List.set_cons_zero, List.set_cons_succ]
          refine h_take 14 (.pointer (some ⟨B5, 369, none⟩)) rfl 52 rfl (by kernel_rfl) (by kernel_rfl) (by kernel_rfl) (by kernel_rfl) (fun _ _ _ h => h) (fun w' _ => by kernel_rfl) ⟨E_27, A_27, D_27, trivial⟩ ?_
          simp only [Act.put, List.setIfInBounds_toArray, List.set_cons_zero, List.set_cons_succ]
          refine h_take 5 (.pointer (some ⟨B1, 1, none⟩)) rfl 47 rfl (by kernel_rfl) (by kernel_rfl) (by kernel_rfl) (by kernel_rfl) (fun _ _ _ h => h) (fun w' _ => by kernel_rfl) ⟨E_27, A_27, D_27, trivial⟩ ?_
          simp only [Act.put, List.setIfInBounds_toArray, List.set_cons_zero, List.set_cons_succ]
          refine h_one (i := 6) (by kernel_rfl) (o_skip rfl rfl (by kernel_rfl) (run_op_storeV _ _ _ rfl B1 1 rfl (.int .u32 (v : Int)) rfl (one_i _ _) (by kernel_rfl) _ _ B1_27 (lt_m K.out (by decide))) ?_)
          have rq := row_setRow B1_27 ((mcs m).set 1 (.int .u32 (v : Int)))
          have oq := Only.setRow B1 yz26 ((mcs m).set 1 (.int .u32 (v : Int))).toArray
          generalize yz26.setRow B1 ((mcs m).set 1 (.int .u32 (v : Int))).toArray = y28 at rq oq ⊢
          have X_29 : Row y28 X 42 (mcs m) := X_27.only oq neXB1
          have E_29 : Row y28 E 24 (u8s l) := E_27.only oq neEB1
          have A_29 : Row y28 A 38 (acs a) := A_27.only oq neAB1
          have D_29 : Row y28 D 24 (u8s d) := D_27.only oq neDB1
          have B1_29 : Row y28 B1 42 (mcs m1) := rq.congr HSET1.out
          have B2_29 : Row y28 B2 42 (mcs m) := B2_27.only oq (Ne.symm x12)
          have B3_29 : Row y28 B3 42 (mcs m) := B3_27.only oq (Ne.symm x13)
          have B4_29 : Row y28 B4 42 (mcs m) := B4_27.only oq (Ne.symm x14)
          have B5_29 : Row y28 B5 42 (mcs m) := B5_27.only oq (Ne.symm x15)
          have bel_29 : Below w.heap.size w y28 := below_only bel_27 oq geB1 bel_27.size
          clear X_27 E_27 A_27 D_27 B1_27 B2_27 B3_27 B4_27 B5_27 bel_27 oq
          clear rq
          refine ⟨⟨E_29, A_29, D_29, trivial⟩, ?_⟩
          refine h_take 7 (.pointer (some ⟨B2, 2, none⟩)) rfl 48 rfl (by kernel_rfl) (by kernel_rfl) (by kernel_rfl) (by kernel_rfl) (fun _ _ _ h => h) (fun w' _ => by kernel_rfl) ⟨E_29, A_29, D_29, trivial⟩ ?_
          simp only [Act.put, List.setIfInBounds_toArray, List.set_cons_zero, List.set_cons_succ]
          refine h_take 8 (.pointer (some ⟨B2, 34, none⟩)) rfl 49 rfl (by kernel_rfl) (by kernel_rfl) (by kernel_rfl) (by kernel_rfl) (fun _ _ _ h => h) (fun w' _ => by kernel_rfl) ⟨E_29, A_29, D_29, trivial⟩ ?_
          simp only [Act.put, List.setIfInBounds_toArray, List.set_cons_zero, List.set_cons_succ]
          refine h_one (i := 9) (by kernel_rfl) (o_skip rfl rfl (by kernel_rfl) (run_op_store _ _ _ rfl B2 (34) rfl (u8s l) rfl _ _ B2_29 (by rw [h_len KL.out, mcs_len K.out]; omega) (u8s_one _) (szH KL.out)) ?_)
          have rq := row_setRow B2_29 (lay (mcs m) (34) (u8s l))
          have oq := Only.setRow B2 y28 (lay (mcs m) (34) (u8s l)).toArray
          generalize y28.setRow B2 (lay (mcs m) (34) (u8s l)).toArray = y30 at rq oq ⊢
          have X_31 : Row y30 X 42 (mcs m) := X_29.only oq neXB2
          have E_31 : Row y30 E 24 (u8s l) := E_29.only oq neEB2
          have A_31 : Row y30 A 38 (acs a) := A_29.only oq neAB2
          have D_31 : Row y30 D 24 (u8s d) := D_29.only oq neDB2
          have B1_31 : Row y30 B1 42 (mcs m1) := B1_29.only oq x12
          have B2_31 : Row y30 B2 42 (mcs m2) := rq.congr HSET2.out
          have B3_31 : Row y30 B3 42 (mcs m) := B3_29.only oq (Ne.symm x23)
          have B4_31 : Row y30 B4 42 (mcs m) := B4_29.only oq (Ne.symm x24)
          have B5_31 : Row y30 B5 42 (mcs m) := B5_29.only oq (Ne.symm x25)
          have bel_31 : Below w.heap.size w y30 := below_only bel_29 oq geB2 bel_29.size
          clear X_29 E_29 A_29 D_29 B1_29 B2_29 B3_29 B4_29 B5_29 bel_29 oq
          clear rq
          refine ⟨⟨E_31, A_31, D_31, trivial⟩, ?_⟩
          refine h_take 10 (.pointer (some ⟨B3, 365, none⟩)) rfl 50 rfl (by kernel_rfl) (by kernel_rfl) (by kernel_rfl) (by kernel_rfl) (fun _ _ _ h => h) (fun w' _ => by kernel_rfl) ⟨E_31, A_31, D_31, trivial⟩ ?_
          simp only [Act.put, List.setIfInBounds_toArray, List.set_cons_zero, List.set_cons_succ]
          refine h_one (i := 11) (by kernel_rfl) (o_skip rfl rfl (by kernel_rfl) (run_op_storeV _ _ _ rfl B3 365 rfl (.int .i64 pl) rfl (one_i _ _) (by kernel_rfl) _ _ B3_31 (lt_m K.out (by decide))) ?_)
          have rq := row_setRow B3_31 ((mcs m).set 365 (.int .i64 pl))
          have oq := Only.setRow B3 y30 ((mcs m).set 365 (.int .i64 pl)).toArray
          generalize y30.setRow B3 ((mcs m).set 365 (.int .i64 pl)).toArray = y32 at rq oq ⊢
          have X_33 : Row y32 X 42 (mcs m) := X_31.only oq neXB3
          have E_33 : Row y32 E 24 (u8s l) := E_31.only oq neEB3
          have A_33 : Row y32 A 38 (acs a) := A_31.only oq neAB3
          have D_33 : Row y32 D 24 (u8s d) := D_31.only oq neDB3
          have B1_33 : Row y32 B1 42 (mcs m1) := B1_31.only oq x13
          have B2_33 : Row y32 B2 42 (mcs m2) := B2_31.only oq x23
          have B3_33 : Row y32 B3 42 (mcs m3) := rq.congr HSET3.out
          have B4_33 : Row y32 B4 42 (mcs m) := B4_31.only oq (Ne.symm x34)
          have B5_33 : Row y32 B5 42 (mcs m) := B5_31.only oq (Ne.symm x35)
          have bel_33 : Below w.heap.size w y32 := below_only bel_31 oq geB3 bel_31.size
          clear X_31 E_31 A_31 D_31 B1_31 B2_31 B3_31 B4_31 B5_31 bel_31 oq
          clear rq
          refine ⟨⟨E_33, A_33, D_33, trivial⟩, ?_⟩
          refine h_take 12 (.pointer (some ⟨B4, 366, none⟩)) rfl 51 rfl (by kernel_rfl) (by kernel_rfl) (by kernel_rfl) (by kernel_rfl) (fun _ _ _ h => h) (fun w' _ => by kernel_rfl) ⟨E_33, A_33, D_33, trivial⟩ ?_
          simp only [Act.put, List.setIfInBounds_toArray, List.set_cons_zero, List.set_cons_succ]
          refine h_one (i := 13) (by kernel_rfl) (o_skip rfl rfl (by kernel_rfl) (run_op_store _ _ _ rfl B4 (366) rfl (acs a) rfl _ _ B4_33 (by rw [acs_len, mcs_len K.out]; omega) (acs_one _) (sz_acc a)) ?_)
          have rq := row_setRow B4_33 (lay (mcs m) (366) (acs a))
          have oq := Only.setRow B4 y32 (lay (mcs m) (366) (acs a)).toArray
          generalize y32.setRow B4 (lay (mcs m) (366) (acs a)).toArray = y34 at rq oq ⊢
          have X_35 : Row y34 X 42 (mcs m) := X_33.only oq neXB4
          have E_35 : Row y34 E 24 (u8s l) := E_33.only oq neEB4
          have A_35 : Row y34 A 38 (acs a) := A_33.only oq neAB4
          have D_35 : Row y34 D 24 (u8s d) := D_33.only oq neDB4
          have B1_35 : Row y34 B1 42 (mcs m1) := B1_33.only oq x14
          have B2_35 : Row y34 B2 42 (mcs m2) := B2_33.only oq x24
          have B3_35 : Row y34 B3 42 (mcs m3) := B3_33.only oq x34
          have B4_35 : Row y34 B4 42 (mcs m4) := rq.congr HSET4.out
          have B5_35 : Row y34 B5 42 (mcs m) := B5_33.only oq (Ne.symm x45)
          have bel_35 : Below w.heap.size w y34 := below_only bel_33 oq geB4 bel_33.size
          clear X_33 E_33 A_33 D_33 B1_33 B2_33 B3_33 B4_33 B5_33 bel_33 oq
          clear rq
          refine ⟨⟨E_35, A_35, D_35, trivial⟩, ?_⟩
          refine h_take 15 (.pointer (some ⟨B5, 369, none⟩)) rfl 53 rfl (by kernel_rfl) (by kernel_rfl) (by kernel_rfl) (by kernel_rfl) (fun _ _ _ h => h) (fun w' _ => run_op_arr _ _ _ rfl 4 24 32 (by kernel_rfl) (by kernel_rfl) B5 369 rfl .i64 _ rfl 0 rfl (by decide) 369 rfl w') ⟨E_35, A_35, D_35, trivial⟩ ?_
          simp only [Act.put, List.setIfInBounds_toArray, List.set_cons_zero, List.set_cons_succ]
          refine h_one (i := 16) (by kernel_rfl) (o_skip rfl rfl (by kernel_rfl) (run_op_store _ _ _ rfl B5 (369) rfl (u8s d) rfl _ _ B5_35 (by rw [h_len KD.out, mcs_len K.out]; omega) (u8s_one _) (szH KD.out)) ?_)
          have rq := row_setRow B5_35 (lay (mcs m) (369) (u8s d))
          have oq := Only.setRow B5 y34 (lay (mcs m) (369) (u8s d)).toArray
          generalize y34.setRow B5 (lay (mcs m) (369) (u8s d)).toArray = y36 at rq oq ⊢
          have X_37 : Row y36 X 42 (mcs m) := X_35.only oq neXB5
          have E_37 : Row y36 E 24 (u8s l) := E_35.only oq neEB5
          have A_37 : Row y36 A 38 (acs a) := A_35.only oq neAB5
          have D_37 : Row y36 D 24 (u8s d) := D_35.only oq neDB5
          have B1_37 : Row y36 B1 42 (mcs m1) := B1_35.only oq x15
          have B2_37 : Row y36 B2 42 (mcs m2) := B2_35.only oq x25
          have B3_37 : Row y36 B3 42 (mcs m3) := B3_35.only oq x35
          have B4_37 : Row y36 B4 42 (mcs m4) := B4_35.only oq x45
          have B5_37 : Row y36 B5 42 (mcs m5) := rq.congr HSET5.out
          have bel_37 : Below w.heap.size w y36 := below_only bel_35 oq geB5 bel_35.size
          clear X_35 E_35 A_35 D_35 B1_35 B2_35 B3_35 B4_35 B5_35 bel_35 oq
          clear rq
          refine ⟨⟨E_37, A_37, D_37, trivial⟩, ?_⟩
          refine wpAnyH_done (by kernel_rfl) ?_ _
          have ck := X_37.cell CK.out
          go_wp2_with fail
          clear ck
          refine wp_region_held (S := fun w' => Row w' B2 42 (mcs m2) ∧ Row w' E 24 (u8s l) ∧ True) (by kernel_rfl) ?_
          change wpAnyH _ _ _ _ _ _ _ _ y36.drew
          have hd38 : Below y36.heap.size y36 y36.drew := (Below.refl _ _).drew
          have X_39 : Row y36.drew X 42 (mcs m) := X_37.old hd38
          have E_39 : Row y36.drew E 24 (u8s l) := E_37.old hd38
          have A_39 : Row y36.drew A 38 (acs a) := A_37.old hd38
          have D_39 : Row y36.drew D 24 (u8s d) := D_37.old hd38
          have B1_39 : Row y36.drew B1 42 (mcs m1) := B1_37.old hd38
          have B2_39 : Row y36.drew B2 42 (mcs m2) := B2_37.old hd38
          have B3_39 : Row y36.drew B3 42 (mcs m3) := B3_37.old hd38
          have B4_39 : Row y36.drew B4 42 (mcs m4) := B4_37.old hd38
          have B5_39 : Row y36.drew B5 42 (mcs m5) := B5_37.old hd38
          have bel_39 : Below w.heap.size w y36.drew := below_step bel_37 bel_37.size hd38
          clear X_37 E_37 A_37 D_37 B1_37 B2_37 B3_37 B4_37 B5_37 bel_37 hd38
          generalize y36.drew = yz38 at X_39 E_39 A_39 D_39 B1_39 B2_39 B3_39 B4_39 B5_39 bel_39 ⊢
          refine h_take 0 (.bool true) rfl 65 rfl (by kernel_rfl) (by kernel_rfl) (by kernel_rfl) (by kernel_rfl) (fun _ _ _ h => h) (fun w' _ => by kernel_rfl) ⟨B2_39, E_39, trivial⟩ ?_
          simp only [Act.put, List.setIfInBounds_toArray, List.set_cons_zero, List.set_cons_succ]
          refine h_take 1 (.bool true) rfl 66 rfl (by kernel_rfl) (by kernel_rfl) (by kernel_rfl) (by kernel_rfl) (fun _ _ _ h => h) (fun w' _ => by kernel_rfl) ⟨B2_39, E_39, trivial⟩ ?_
          simp only [Act.put, List.setIfInBounds_toArray, List.set_cons_zero, List.set_cons_succ]
          refine h_take 2 (.agg (mcs m2).toArray) rfl 67 rfl (by kernel_rfl) (by kernel_rfl) (by kernel_rfl) (by kernel_rfl) (fun _ _ _ h => h) (fun w' hw => run_op_load _ _ rfl B2 (0) rfl (mcs m2) (((Has.refl _)).range hw.1) ((sz_msg K2.out))) ⟨B2_39, E_39, trivial⟩ ?_
          simp only [Act.put, List.setIfInBounds_toArray, List.set_cons_zero, List.set_cons_succ]
          refine h_take 4 (.agg (u8s l).toArray) rfl 69 rfl (by kernel_rfl) (by kernel_rfl) (by kernel_rfl) (by kernel_rfl) (fun _ _ _ h => h) (fun w' hw => run_op_load _ _ rfl E (0) rfl (u8s l) (((Has.refl _)).range hw.2.1) ((szH KL.out))) ⟨B2_39, E_39, trivial⟩ ?_
          simp only [Act.put, List.setIfInBounds_toArray, List.set_cons_zero, List.set_cons_succ]
          refine h_take 5 (.agg (u8s zh).toArray) rfl 70 rfl (by kernel_rfl) (by kernel_rfl) (by kernel_rfl) (by kernel_rfl) (fun _ _ _ h => h) (fun w' _ => run_op_build _ _ rfl (u8s zh) (by simp only [List.map_toArray, List.map_nil]; exact zh_built) w') ⟨B2_39, E_39, trivial⟩ ?_
          simp only [Act.put, List.setIfInBounds_toArray, List.set_cons_zero, List.set_cons_succ]
          refine h_take 6 (.bool b2) rfl 71 rfl (by kernel_rfl) (by kernel_rfl) (by kernel_rfl) (by kernel_rfl) (fun _ _ _ h => h) (fun w' _ => run_op_eqlD KL.out zh_ok _ _ _ rfl rfl rfl b2 HI2.out w') ⟨B2_39, E_39, trivial⟩ ?_
          simp only [Act.put, List.setIfInBounds_toArray, List.set_cons_zero, List.set_cons_succ]
          refine h_one (i := 3) (by kernel_rfl) (o_call rfl 68 rfl (by kernel_rfl) (run_op_call 12 _ _ rfl #[.agg (mcs m2).toArray] (by simp only [List.map_toArray, List.map_cons, List.map_nil]; rfl) Try.func12 (by kernel_rfl) (by kernel_rfl) _) (CR2.out _) ?_)
          rintro e y40 ⟨rfl, hB⟩
          have X_41 : Row y40 X 42 (mcs m) := X_39.old hB
          have E_41 : Row y40 E 24 (u8s l) := E_39.old hB
          have A_41 : Row y40 A 38 (acs a) := A_39.old hB
          have D_41 : Row y40 D 24 (u8s d) := D_39.old hB
          have B1_41 : Row y40 B1 42 (mcs m1) := B1_39.old hB
          have B2_41 : Row y40 B2 42 (mcs m2) := B2_39.old hB
          have B3_41 : Row y40 B3 42 (mcs m3) := B3_39.old hB
          have B4_41 : Row y40 B4 42 (mcs m4) := B4_39.old hB
          have B5_41 : Row y40 B5 42 (mcs m5) := B5_39.old hB
          have bel_41 : Below w.heap.size w y40 := below_step bel_39 bel_39.size hB
          clear X_39 E_39 A_39 D_39 B1_39 B2_39 B3_39 B4_39 B5_39 bel_39 hB
          refine ⟨_, rfl, ⟨B2_41, E_41, trivial⟩, ?_⟩
          simp only [Act.put, List.setIfInBounds_toArray, List.set_cons_zero, List.set_cons_succ]
          refine h_take 7 (.bool true) rfl 72 rfl (by kernel_rfl) (by kernel_rfl) (by kernel_rfl) (by kernel_rfl) (fun _ _ _ h => h) (fun w' _ => run_op_eqlBB _ _ _ rfl b2 b2 rfl rfl true HEB2.out w') ⟨B2_41, E_41, trivial⟩ ?_
          simp only [Act.put, List.setIfInBounds_toArray, List.set_cons_zero, List.set_cons_succ]
          refine h_take 8 (.bool true) rfl 73 rfl (by kernel_rfl) (by kernel_rfl) (by kernel_rfl) (by kernel_rfl) (fun _ _ _ h => h) (fun w' _ => by kernel_rfl) ⟨B2_41, E_41, trivial⟩ ?_
          simp only [Act.put, List.setIfInBounds_toArray, List.set_cons_zero, List.set_cons_succ]
          refine h_take 9 (.bool true) rfl 18 rfl (by kernel_rfl) (by kernel_rfl) (by kernel_rfl) (by kernel_rfl) (fun _ _ _ h => h) (fun w' _ => by kernel_rfl) ⟨B2_41, E_41, trivial⟩ ?_
          simp only [Act.put, List.setIfInBounds_toArray, List.set_cons_zero, List.set_cons_succ]
          refine wpAnyH_done (by kernel_rfl) ?_ _
          have ck := X_41.cell CK.out
          go_wp2_with fail
          clear ck
          refine wp_region_held (S := fun w' => Row w' B3 42 (mcs m3) ∧ Row w' B4 42 (mcs m4) ∧ Row w' B5 42 (mcs m5) ∧ Row w' A 38 (acs a) ∧ Row w' D 24 (u8s d) ∧ True) (by kernel_rfl) ?_
          change wpAnyH _ _ _ _ _ _ _ _ y40.drew
          have hd42 : Below y40.heap.size y40 y40.drew := (Below.refl _ _).drew
          have X_43 : Row y40.drew X 42 (mcs m) := X_41.old hd42
          have E_43 : Row y40.drew E 24 (u8s l) := E_41.old hd42
          have A_43 : Row y40.drew A 38 (acs a) := A_41.old hd42
          have D_43 : Row y40.drew D 24 (u8s d) := D_41.old hd42
          have B1_43 : Row y40.drew B1 42 (mcs m1) := B1_41.old hd42
          have B2_43 : Row y40.drew B2 42 (mcs m2) := B2_41.old hd42
          have B3_43 : Row y40.drew B3 42 (mcs m3) := B3_41.old hd42
          have B4_43 : Row y40.drew B4 42 (mcs m4) := B4_41.old hd42
          have B5_43 : Row y40.drew B5 42 (mcs m5) := B5_41.old hd42
          have bel_43 : Below w.heap.size w y40.drew := below_step bel_41 bel_41.size hd42
          clear X_41 E_41 A_41 D_41 B1_41 B2_41 B3_41 B4_41 B5_41 bel_41 hd42
          generalize y40.drew = yz42 at X_43 E_43 A_43 D_43 B1_43 B2_43 B3_43 B4_43 B5_43 bel_43 ⊢
          refine h_take 0 (.bool true) rfl 77 rfl (by kernel_rfl) (by kernel_rfl) (by kernel_rfl) (by kernel_rfl) (fun _ _ _ h => h) (fun w' _ => by kernel_rfl) ⟨B3_43, B4_43, B5_43, A_43, D_43, trivial⟩ ?_
          simp only [Act.put, List.setIfInBounds_toArray, List.set_cons_zero, List.set_cons_succ]
          refine h_take 1 (.bool true) rfl 78 rfl (by kernel_rfl) (by kernel_rfl) (by kernel_rfl) (by kernel_rfl) (fun _ _ _ h => h) (fun w' _ => by kernel_rfl) ⟨B3_43, B4_43, B5_43, A_43, D_43, trivial⟩ ?_
          simp only [Act.put, List.setIfInBounds_toArray, List.set_cons_zero, List.set_cons_succ]
          refine h_take 2 (.agg (mcs m3).toArray) rfl 79 rfl (by kernel_rfl) (by kernel_rfl) (by kernel_rfl) (by kernel_rfl) (fun _ _ _ h => h) (fun w' hw => run_op_load _ _ rfl B3 (0) rfl (mcs m3) (((Has.refl _)).range hw.1) ((sz_msg K3.out))) ⟨B3_43, B4_43, B5_43, A_43, D_43, trivial⟩ ?_
          simp only [Act.put, List.setIfInBounds_toArray, List.set_cons_zero, List.set_cons_succ]
          refine h_take 4 (.int .i64 pl) rfl 81 rfl (by kernel_rfl) (by kernel_rfl) (by kernel_rfl) (by kernel_rfl) (fun _ _ _ h => h) (fun w' _ => by kernel_rfl) ⟨B3_43, B4_43, B5_43, A_43, D_43, trivial⟩ ?_
          simp only [Act.put, List.setIfInBounds_toArray, List.set_cons_zero, List.set_cons_succ]
          refine h_take 5 (.bool b3) rfl 82 rfl (by kernel_rfl) (by kernel_rfl) (by kernel_rfl) (by kernel_rfl) (fun _ _ _ h => h) (fun w' _ => cmp_eql _ _ .i64 (by kernel_rfl) _ _ rfl .i64 (pl) (0) rfl rfl b3 HI3.out w') ⟨B3_43, B4_43, B5_43, A_43, D_43, trivial⟩ ?_
          simp only [Act.put, List.setIfInBounds_toArray, List.set_cons_zero, List.set_cons_succ]
          refine h_one (i := 3) (by kernel_rfl) (o_call rfl 80 rfl (by kernel_rfl) (run_op_call 12 _ _ rfl #[.agg (mcs m3).toArray] (by simp only [List.map_toArray, List.map_cons, List.map_nil]; rfl) Try.func12 (by kernel_rfl) (by kernel_rfl) _) (CR3.out _) ?_)
          rintro e y44 ⟨rfl, hB⟩
          have X_45 : Row y44 X 42 (mcs m) := X_43.old hB
          have E_45 : Row y44 E 24 (u8s l) := E_43.old hB
          have A_45 : Row y44 A 38 (acs a) := A_43.old hB
          have D_45 : Row y44 D 24 (u8s d) := D_43.old hB
          have B1_45 : Row y44 B1 42 (mcs m1) := B1_43.old hB
          have B2_45 : Row y44 B2 42 (mcs m2) := B2_43.old hB
          have B3_45 : Row y44 B3 42 (mcs m3) := B3_43.old hB
          have B4_45 : Row y44 B4 42 (mcs m4) := B4_43.old hB
          have B5_45 : Row y44 B5 42 (mcs m5) := B5_43.old hB
          have bel_45 : Below w.heap.size w y44 := below_step bel_43 bel_43.size hB
          clear X_43 E_43 A_43 D_43 B1_43 B2_43 B3_43 B4_43 B5_43 bel_43 hB
          refine ⟨_, rfl, ⟨B3_45, B4_45, B5_45, A_45, D_45, trivial⟩, ?_⟩
          simp only [Act.put, List.setIfInBounds_toArray, List.set_cons_zero, List.set_cons_succ]
          refine h_take 6 (.bool true) rfl 83 rfl (by kernel_rfl) (by kernel_rfl) (by kernel_rfl) (by kernel_rfl) (fun _ _ _ h => h) (fun w' _ => run_op_eqlBB _ _ _ rfl b3 b3 rfl rfl true HEB3.out w') ⟨B3_45, B4_45, B5_45, A_45, D_45, trivial⟩ ?_
          simp only [Act.put, List.setIfInBounds_toArray, List.set_cons_zero, List.set_cons_succ]
          refine h_take 7 (.bool true) rfl 84 rfl (by kernel_rfl) (by kernel_rfl) (by kernel_rfl) (by kernel_rfl) (fun _ _ _ h => h) (fun w' _ => by kernel_rfl) ⟨B3_45, B4_45, B5_45, A_45, D_45, trivial⟩ ?_
          simp only [Act.put, List.setIfInBounds_toArray, List.set_cons_zero, List.set_cons_succ]
          refine h_take 8 (.bool true) rfl 85 rfl (by kernel_rfl) (by kernel_rfl) (by kernel_rfl) (by kernel_rfl) (fun _ _ _ h => h) (fun w' _ => by kernel_rfl) ⟨B3_45, B4_45, B5_45, A_45, D_45, trivial⟩ ?_
          simp only [Act.put, List.setIfInBounds_toArray, List.set_cons_zero, List.set_cons_succ]
          refine h_take 9 (.agg (mcs m4).toArray) rfl 86 rfl (by kernel_rfl) (by kernel_rfl) (by kernel_rfl) (by kernel_rfl) (fun _ _ _ h => h) (fun w' hw => run_op_load _ _ rfl B4 (0) rfl (mcs m4) (((Has.refl _)).range hw.2.1) ((sz_msg K4.out))) ⟨B3_45, B4_45, B5_45, A_45, D_45, trivial⟩ ?_
          simp only [Act.put, List.setIfInBounds_toArray, List.set_cons_zero, List.set_cons_succ]
          refine h_take 11 (.agg (acs a).toArray) rfl 88 rfl (by kernel_rfl) (by kernel_rfl) (by kernel_rfl) (by kernel_rfl) (fun _ _ _ h => h) (fun w' hw => run_op_load _ _ rfl A (0) rfl (acs a) (((Has.refl _)).range hw.2.2.2.1) ((sz_acc a))) ⟨B3_45, B4_45, B5_45, A_45, D_45, trivial⟩ ?_
          simp only [Act.put, List.setIfInBounds_toArray, List.set_cons_zero, List.set_cons_succ]
          refine h_take 12 (.agg (acs za).toArray) rfl 89 rfl (by kernel_rfl) (by kernel_rfl) (by kernel_rfl) (by kernel_rfl) (fun _ _ _ h => h) (fun w' _ => run_op_build _ _ rfl (acs za) (by simp only [List.map_toArray, List.map_nil]; exact built_za) w') ⟨B3_45, B4_45, B5_45, A_45, D_45, trivial⟩ ?_
          simp only [Act.put, List.setIfInBounds_toArray, List.set_cons_zero, List.set_cons_succ]
          refine h_take 13 (.bool b4) rfl 90 rfl (by kernel_rfl) (by kernel_rfl) (by kernel_rfl) (by kernel_rfl) (fun _ _ _ h => h) (fun w' _ => run_op_eqlA _ _ _ rfl a za rfl rfl b4 HI4.out w') ⟨B3_45, B4_45, B5_45, A_45, D_45, trivial⟩ ?_
          simp only [Act.put, List.setIfInBounds_toArray, List.set_cons_zero, List.set_cons_succ]
          refine h_one (i := 10) (by kernel_rfl) (o_call rfl 87 rfl (by kernel_rfl) (run_op_call 12 _ _ rfl #[.agg (mcs m4).toArray] (by simp only [List.map_toArray, List.map_cons, List.map_nil]; rfl) Try.func12 (by kernel_rfl) (by kernel_rfl) _) (CR4.out _) ?_)
          rintro e y46 ⟨rfl, hB⟩
          have X_47 : Row y46 X 42 (mcs m) := X_45.old hB
          have E_47 : Row y46 E 24 (u8s l) := E_45.old hB
          have A_47 : Row y46 A 38 (acs a) := A_45.old hB
          have D_47 : Row y46 D 24 (u8s d) := D_45.old hB
          have B1_47 : Row y46 B1 42 (mcs m1) := B1_45.old hB
          have B2_47 : Row y46 B2 42 (mcs m2) := B2_45.old hB
          have B3_47 : Row y46 B3 42 (mcs m3) := B3_45.old hB
          have B4_47 : Row y46 B4 42 (mcs m4) := B4_45.old hB
          have B5_47 : Row y46 B5 42 (mcs m5) := B5_45.old hB
          have bel_47 : Below w.heap.size w y46 := below_step bel_45 bel_45.size hB
          clear X_45 E_45 A_45 D_45 B1_45 B2_45 B3_45 B4_45 B5_45 bel_45 hB
          refine ⟨_, rfl, ⟨B3_47, B4_47, B5_47, A_47, D_47, trivial⟩, ?_⟩
          simp only [Act.put, List.setIfInBounds_toArray, List.set_cons_zero, List.set_cons_succ]
          refine h_take 14 (.bool true) rfl 91 rfl (by kernel_rfl) (by kernel_rfl) (by kernel_rfl) (by kernel_rfl) (fun _ _ _ h => h) (fun w' _ => run_op_eqlBB _ _ _ rfl b4 b4 rfl rfl true HEB4.out w') ⟨B3_47, B4_47, B5_47, A_47, D_47, trivial⟩ ?_
          simp only [Act.put, List.setIfInBounds_toArray, List.set_cons_zero, List.set_cons_succ]
          refine h_take 15 (.bool true) rfl 92 rfl (by kernel_rfl) (by kernel_rfl) (by kernel_rfl) (by kernel_rfl) (fun _ _ _ h => h) (fun w' _ => by kernel_rfl) ⟨B3_47, B4_47, B5_47, A_47, D_47, trivial⟩ ?_
          simp only [Act.put, List.setIfInBounds_toArray, List.set_cons_zero, List.set_cons_succ]
          refine h_take 16 (.bool true) rfl 93 rfl (by kernel_rfl) (by kernel_rfl) (by kernel_rfl) (by kernel_rfl) (fun _ _ _ h => h) (fun w' _ => by kernel_rfl) ⟨B3_47, B4_47, B5_47, A_47, D_47, trivial⟩ ?_
          simp only [Act.put, List.setIfInBounds_toArray, List.set_cons_zero, List.set_cons_succ]
          refine h_take 17 (.agg (mcs m5).toArray) rfl 94 rfl (by kernel_rfl) (by kernel_rfl) (by kernel_rfl) (by kernel_rfl) (fun _ _ _ h => h) (fun w' hw => run_op_load _ _ rfl B5 (0) rfl (mcs m5) (((Has.refl _)).range hw.2.2.1) ((sz_msg K5.out))) ⟨B3_47, B4_47, B5_47, A_47, D_47, trivial⟩ ?_
          simp only [Act.put, List.setIfInBounds_toArray, List.set_cons_zero, List.set_cons_succ]
          refine h_take 19 (.agg (u8s d).toArray) rfl 96 rfl (by kernel_rfl) (by kernel_rfl) (by kernel_rfl) (by kernel_rfl) (fun _ _ _ h => h) (fun w' hw => run_op_load _ _ rfl D (0) rfl (u8s d) (((Has.refl _)).range hw.2.2.2.2.1) ((szH KD.out))) ⟨B3_47, B4_47, B5_47, A_47, D_47, trivial⟩ ?_
          simp only [Act.put, List.setIfInBounds_toArray, List.set_cons_zero, List.set_cons_succ]
          refine h_take 20 (.agg (u8s zh).toArray) rfl 97 rfl (by kernel_rfl) (by kernel_rfl) (by kernel_rfl) (by kernel_rfl) (fun _ _ _ h => h) (fun w' _ => run_op_build _ _ rfl (u8s zh) (by simp only [List.map_toArray, List.map_nil]; exact zh_built) w') ⟨B3_47, B4_47, B5_47, A_47, D_47, trivial⟩ ?_
          simp only [Act.put, List.setIfInBounds_toArray, List.set_cons_zero, List.set_cons_succ]
          refine h_take 21 (.bool b5) rfl 98 rfl (by kernel_rfl) (by kernel_rfl) (by kernel_rfl) (by kernel_rfl) (fun _ _ _ h => h) (fun w' _ => run_op_eqlD KD.out zh_ok _ _ _ rfl rfl rfl b5 HI5.out w') ⟨B3_47, B4_47, B5_47, A_47, D_47, trivial⟩ ?_
          simp only [Act.put, List.setIfInBounds_toArray, List.set_cons_zero, List.set_cons_succ]
          refine h_one (i := 18) (by kernel_rfl) (o_call rfl 95 rfl (by kernel_rfl) (run_op_call 12 _ _ rfl #[.agg (mcs m5).toArray] (by simp only [List.map_toArray, List.map_cons, List.map_nil]; rfl) Try.func12 (by kernel_rfl) (by kernel_rfl) _) (CR5.out _) ?_)
          rintro e y48 ⟨rfl, hB⟩
          have X_49 : Row y48 X 42 (mcs m) := X_47.old hB
          have E_49 : Row y48 E 24 (u8s l) := E_47.old hB
          have A_49 : Row y48 A 38 (acs a) := A_47.old hB
          have D_49 : Row y48 D 24 (u8s d) := D_47.old hB
          have B1_49 : Row y48 B1 42 (mcs m1) := B1_47.old hB
          have B2_49 : Row y48 B2 42 (mcs m2) := B2_47.old hB
          have B3_49 : Row y48 B3 42 (mcs m3) := B3_47.old hB
          have B4_49 : Row y48 B4 42 (mcs m4) := B4_47.old hB
          have B5_49 : Row y48 B5 42 (mcs m5) := B5_47.old hB
          have bel_49 : Below w.heap.size w y48 := below_step bel_47 bel_47.size hB
          clear X_47 E_47 A_47 D_47 B1_47 B2_47 B3_47 B4_47 B5_47 bel_47 hB
          refine ⟨_, rfl, ⟨B3_49, B4_49, B5_49, A_49, D_49, trivial⟩, ?_⟩
          simp only [Act.put, List.setIfInBounds_toArray, List.set_cons_zero, List.set_cons_succ]
          refine h_take 22 (.bool true) rfl 99 rfl (by kernel_rfl) (by kernel_rfl) (by kernel_rfl) (by kernel_rfl) (fun _ _ _ h => h) (fun w' _ => run_op_eqlBB _ _ _ rfl b5 b5 rfl rfl true HEB5.out w') ⟨B3_49, B4_49, B5_49, A_49, D_49, trivial⟩ ?_
          simp only [Act.put, List.setIfInBounds_toArray, List.set_cons_zero, List.set_cons_succ]
          refine h_take 23 (.bool true) rfl 100 rfl (by kernel_rfl) (by kernel_rfl) (by kernel_rfl) (by kernel_rfl) (fun _ _ _ h => h) (fun w' _ => by kernel_rfl) ⟨B3_49, B4_49, B5_49, A_49, D_49, trivial⟩ ?_
          simp only [Act.put, List.setIfInBounds_toArray, List.set_cons_zero, List.set_cons_succ]
          refine h_take 24 (.bool true) rfl 18 rfl (by kernel_rfl) (by kernel_rfl) (by kernel_rfl) (by kernel_rfl) (fun _ _ _ h => h) (fun w' _ => by kernel_rfl) ⟨B3_49, B4_49, B5_49, A_49, D_49, trivial⟩ ?_
          simp only [Act.put, List.setIfInBounds_toArray, List.set_cons_zero, List.set_cons_succ]
          refine wpAnyH_done (by kernel_rfl) ?_ _
          go_wp2_with fail
          go_ret
          exact ⟨rfl, bel_49⟩
        · skip
          have n1 : ((q : Int) != 1) = true := by simp; omega
          have n2 : ((q : Int) != 2) = false := by simp; omega
          have n4 : ((q : Int) != 4) = true := by simp; omega
          obtain ⟨b1, hb1⟩ : ∃ b, b = ((v : Int) == 0) := ⟨_, rfl⟩
          have HB1 : Hid (mrB m1 = b1) := Lib.hid (mrB_eq ((HO1b.out (by omega)).trans (by rw [hb1]; simp)))
          have CR1 : Hid (∀ w0, Calls Try.prog 12 #[.agg (mcs m1).toArray] w0 fun e w' => e = .returned (.bool b1) ∧ Below w0.heap.size w0 w') := Lib.hid fun w0 => (mright_any m1 w0 K1.out).mono fun e w' h => ⟨by rw [h.1, HB1.out], h.2⟩
          have HI1 : Hid (decide ((v : Int) = 0) = b1) := Lib.hid (by rw [hb1, Bool.eq_iff_iff]; simp)
          clear hb1
          have HEB1 : Hid ((b1 == b1) = true) := Lib.hid (by simp)
          obtain ⟨b3, hb3⟩ : ∃ b, b = decide (pl = 0) := ⟨_, rfl⟩
          have HB3 : Hid (mrB m3 = b3) := Lib.hid (mrB_eq ((HO3b.out (by omega)).trans (by rw [hb3]; simp)))
          have CR3 : Hid (∀ w0, Calls Try.prog 12 #[.agg (mcs m3).toArray] w0 fun e w' => e = .returned (.bool b3) ∧ Below w0.heap.size w0 w') := Lib.hid fun w0 => (mright_any m3 w0 K3.out).mono fun e w' h => ⟨by rw [h.1, HB3.out], h.2⟩
          have HI3 : Hid (decide (pl = 0) = b3) := Lib.hid hb3.symm
          have HEB3 : Hid ((b3 == b3) = true) := Lib.hid (by simp)
          obtain ⟨b4, hb4⟩ : ∃ b : Bool, (b = true ↔ a = za) := ⟨@decide (a = za) (Classical.propDecidable _), @decide_eq_true_iff _ (Classical.propDecidable _)⟩
          have HB4 : Hid (mrB m4 = b4) := Lib.hid (mrB_eq ((HO4b.out (by omega)).trans hb4.symm))
          have CR4 : Hid (∀ w0, Calls Try.prog 12 #[.agg (mcs m4).toArray] w0 fun e w' => e = .returned (.bool b4) ∧ Below w0.heap.size w0 w') := Lib.hid fun w0 => (mright_any m4 w0 K4.out).mono fun e w' h => ⟨by rw [h.1, HB4.out], h.2⟩
          have HI4 := Lib.hid hb4
          have HEB4 : Hid ((b4 == b4) = true) := Lib.hid (by simp)
          obtain ⟨b5, hb5⟩ : ∃ b, b = decide (d = zh) := ⟨_, rfl⟩
          have HB5 : Hid (mrB m5 = b5) := Lib.hid (mrB_eq ((HO5b.out (by omega)).trans (by rw [hb5]; simp)))
          have CR5 : Hid (∀ w0, Calls Try.prog 12 #[.agg (mcs m5).toArray] w0 fun e w' => e = .returned (.bool b5) ∧ Below w0.heap.size w0 w') := Lib.hid fun w0 => (mright_any m5 w0 K5.out).mono fun e w' h => ⟨by rw [h.1, HB5.out], h.2⟩
          have HI5 : Hid (b5 = true ↔ d = zh) := Lib.hid (by rw [hb5]; simp)
          have HEB5 : Hid ((b5 == b5) = true) := Lib.hid (by simp)
          clear hb3 hb4 hb5
          clear hk hq4 HO1b HO2b HO3b HO4b HO5b
          go_enter Try.func5, Try.ntmps5
          go_wp2_with (first
            | ((with_reducible refine at_slot 6 ?_); (refine arm_box (o := ⟨some 6, _, _, _, _, _⟩) rfl _ _ rfl (mcs m) rfl ?_); intro X v1 Xe hv1 nv1; try simp only [Act.put, List.setIfInBounds_toArray, List.set_cons_zero, List.set_cons_succ])
            | ((with_reducible refine at_slot 8 ?_); (refine arm_box (o := ⟨some 8, _, _, _, _, _⟩) rfl _ _ rfl (u8s l) rfl ?_); intro E v2 Ee hv2 nv2; try simp only [Act.put, List.setIfInBounds_toArray, List.set_cons_zero, List.set_cons_succ])
            | ((with_reducible refine at_slot 10 ?_); (refine arm_box (o := ⟨some 10, _, _, _, _, _⟩) rfl _ _ rfl (acs a) rfl ?_); intro A v3 Ae hv3 nv3; try simp only [Act.put, List.setIfInBounds_toArray, List.set_cons_zero, List.set_cons_succ])
            | ((with_reducible refine at_slot 11 ?_); (refine arm_box (o := ⟨some 11, _, _, _, _, _⟩) rfl _ _ rfl (u8s d) rfl ?_); intro D v4 De hv4 nv4; try simp only [Act.put, List.setIfInBounds_toArray, List.set_cons_zero, List.set_cons_succ]))
          have hbv1 := nv1.below
          have rrv1 : Row v1 X 42 (mcs m) := hv1
          have hbv2 := nv2.below
          have rrv2 : Row v2 E 24 (u8s l) := hv2
          have hbv3 := nv3.below
          have rrv3 : Row v3 A 38 (acs a) := hv3
          have hbv4 := nv4.below
          have rrv4 : Row v4 D 24 (u8s d) := hv4
          have geX : w.heap.size ≤ X := by have := Xe.out; omega
          have lXx : w.heap.size ≤ X := by have := Xe.out; omega
          clear hv1 nv1 Xe
          have bel_5 : Below w.heap.size w v1 := hbv1
          clear hbv1
          have geE : w.heap.size ≤ E := by have := Ee.out; have := bel_5.size; omega
          have ltXE : X < E := by have := Ee.out; have := rrv1.lt; omega
          have lEx : v1.heap.size ≤ E := by have := Ee.out; omega
          clear hv2 nv2 Ee
          have X_6 : Row v2 X 42 (mcs m) := rrv1.old hbv2
          have bel_6 : Below w.heap.size w v2 := below_step bel_5 bel_5.size hbv2
          clear rrv1 bel_5 hbv2
          have geA : w.heap.size ≤ A := by have := Ae.out; have := bel_6.size; omega
          have ltEA : E < A := by have := Ae.out; have := rrv2.lt; omega
          have lAx : v2.heap.size ≤ A := by have := Ae.out; omega
          clear hv3 nv3 Ae
          have X_7 : Row v3 X 42 (mcs m) := X_6.old hbv3
          have E_7 : Row v3 E 24 (u8s l) := rrv2.old hbv3
          have bel_7 : Below w.heap.size w v3 := below_step bel_6 bel_6.size hbv3
          clear X_6 rrv2 bel_6 hbv3
          have geD : w.heap.size ≤ D := by have := De.out; have := bel_7.size; omega
          have ltAD : A < D := by have := De.out; have := rrv3.lt; omega
          have lDx : v3.heap.size ≤ D := by have := De.out; omega
          clear hv4 nv4 De
          have X_8 : Row v4 X 42 (mcs m) := X_7.old hbv4
          have E_8 : Row v4 E 24 (u8s l) := E_7.old hbv4
          have A_8 : Row v4 A 38 (acs a) := rrv3.old hbv4
          have bel_8 : Below w.heap.size w v4 := below_step bel_7 bel_7.size hbv4
          clear X_7 E_7 rrv3 bel_7 hbv4
          refine (CA.out _).mono ?_
          rintro e y9 ⟨rfl, hB⟩
          have X_10 : Row y9 X 42 (mcs m) := X_8.old hB
          have E_10 : Row y9 E 24 (u8s l) := E_8.old hB
          have A_10 : Row y9 A 38 (acs a) := A_8.old hB
          have D_10 : Row y9 D 24 (u8s d) := rrv4.old hB
          have bel_10 : Below w.heap.size w y9 := below_step bel_8 bel_8.size hB
          clear X_8 E_8 A_8 rrv4 bel_8 hB
          have cn := X_10.cell CN.out; have cna := A_10.cell CNA.out
          go_wp2_with (first
            | ((with_reducible refine at_slot 33 ?_); (refine arm_want (.agg (mcs m).toArray) 33 rfl (by kernel_rfl) (run_op_load _ _ rfl X 0 rfl (mcs m) ((Has.refl _).range X_10) SX.out) ?_); try simp only [Act.put, List.setIfInBounds_toArray, List.set_cons_zero, List.set_cons_succ]))
          refine (CR.out _).mono ?_
          rintro e y11 ⟨rfl, hB⟩
          have X_12 : Row y11 X 42 (mcs m) := X_10.old hB
          have E_12 : Row y11 E 24 (u8s l) := E_10.old hB
          have A_12 : Row y11 A 38 (acs a) := A_10.old hB
          have D_12 : Row y11 D 24 (u8s d) := D_10.old hB
          have bel_12 : Below w.heap.size w y11 := below_step bel_10 bel_10.size hB
          clear X_10 E_10 A_10 D_10 bel_10 hB
          clear cn cna
          go_wp2_with fail
          refine wp_region_held (S := fun w' => Row w' X 42 (mcs m) ∧ True) (by kernel_rfl) ?_
          change wpAnyH _ _ _ _ _ _ _ _ y11.drew
          have hd13 : Below y11.heap.size y11 y11.drew := (Below.refl _ _).drew
          have X_14 : Row y11.drew X 42 (mcs m) := X_12.old hd13
          have E_14 : Row y11.drew E 24 (u8s l) := E_12.old hd13
          have A_14 : Row y11.drew A 38 (acs a) := A_12.old hd13
          have D_14 : Row y11.drew D 24 (u8s d) := D_12.old hd13
          have bel_14 : Below w.heap.size w y11.drew := below_step bel_12 bel_12.size hd13
          clear X_12 E_12 A_12 D_12 bel_12 hd13
          generalize y11.drew = yz13 at X_14 E_14 A_14 D_14 bel_14 ⊢
          refine h_take 0 (.agg (mcs m).toArray) rfl 37 rfl (by kernel_rfl) (by kernel_rfl) (by kernel_rfl) (by kernel_rfl) (fun _ _ _ h => h) (fun w' hw => run_op_load _ _ rfl X (0) rfl (mcs m) (((Has.refl _)).range hw.1) (SX.out)) ⟨X_14, trivial⟩ ?_
          simp only [Act.put, List.setIfInBounds_toArray, List.set_cons_zero, List.set_cons_succ]
          refine h_take 1 (.agg (mcs m).toArray) rfl 38 rfl (by kernel_rfl) (by kernel_rfl) (by kernel_rfl) (by kernel_rfl) (fun _ _ _ h => h) (fun w' hw => run_op_load _ _ rfl X (0) rfl (mcs m) (((Has.refl _)).range hw.1) (SX.out)) ⟨X_14, trivial⟩ ?_
          simp only [Act.put, List.setIfInBounds_toArray, List.set_cons_zero, List.set_cons_succ]
          refine h_take 2 (.agg (mcs m).toArray) rfl 39 rfl (by kernel_rfl) (by kernel_rfl) (by kernel_rfl) (by kernel_rfl) (fun _ _ _ h => h) (fun w' hw => run_op_load _ _ rfl X (0) rfl (mcs m) (((Has.refl _)).range hw.1) (SX.out)) ⟨X_14, trivial⟩ ?_
          simp only [Act.put, List.setIfInBounds_toArray, List.set_cons_zero, List.set_cons_succ]
          refine h_take 3 (.agg (mcs m).toArray) rfl 40 rfl (by kernel_rfl) (by kernel_rfl) (by kernel_rfl) (by kernel_rfl) (fun _ _ _ h => h) (fun w' hw => run_op_load _ _ rfl X (0) rfl (mcs m) (((Has.refl _)).range hw.1) (SX.out)) ⟨X_14, trivial⟩ ?_
          simp only [Act.put, List.setIfInBounds_toArray, List.set_cons_zero, List.set_cons_succ]
          refine h_take 4 (.agg (mcs m).toArray) rfl 41 rfl (by kernel_rfl) (by kernel_rfl) (by kernel_rfl) (by kernel_rfl) (fun _ _ _ h => h) (fun w' hw => run_op_load _ _ rfl X (0) rfl (mcs m) (((Has.refl _)).range hw.1) (SX.out)) ⟨X_14, trivial⟩ ?_
          simp only [Act.put, List.setIfInBounds_toArray, List.set_cons_zero, List.set_cons_succ]
          have lX := X_14.lt; have lE := E_14.lt; have lA := A_14.lt; have lD := D_14.lt
          refine h_allocsN (S := _) 42 (mcs zm) z_msg 5 [(5, 13), (6, 14), (7, 15), (8, 16), (9, 17)] _ _ _ _ rfl (by kernel_rfl) (fun p hp => by
            simp only [List.mem_cons, List.not_mem_nil, or_false] at hp
            rcases hp with rfl | rfl | rfl | rfl | rfl <;> exact ⟨_, rfl, rfl, rfl, rfl⟩) (by decide) (by decide) (fun w' hb => ⟨X_14.old hb, trivial⟩) ?_
          intro bs y50 hbl hbn hbr hB50
          obtain ⟨B1, B2, B3, B4, B5, rfl⟩ : ∃ B1 B2 B3 B4 B5, bs = [B1, B2, B3, B4, B5] := by
            match bs, hbl with
            | [B1, B2, B3, B4, B5], _ => exact ⟨B1, B2, B3, B4, B5, rfl⟩
          simp only [List.nodup_cons, List.mem_cons, List.not_mem_nil, or_false, not_or] at hbn
          obtain ⟨⟨x12, x13, x14, x15⟩, ⟨x23, x24, x25⟩, ⟨x34, x35⟩, x45, _⟩ := hbn
          obtain ⟨g1, r1⟩ := hbr B1 (by simp)
          obtain ⟨g2, r2⟩ := hbr B2 (by simp)
          obtain ⟨g3, r3⟩ := hbr B3 (by simp)
          obtain ⟨g4, r4⟩ := hbr B4 (by simp)
          obtain ⟨g5, r5⟩ := hbr B5 (by simp)
          clear hbr hbl
          have zw := bel_14.size
          have geB1 : w.heap.size ≤ B1 := Nat.le_trans zw g1
          have neXB1 : X ≠ B1 := Nat.ne_of_lt (Nat.lt_of_lt_of_le lX g1)
          have neEB1 : E ≠ B1 := Nat.ne_of_lt (Nat.lt_of_lt_of_le lE g1)
          have neAB1 : A ≠ B1 := Nat.ne_of_lt (Nat.lt_of_lt_of_le lA g1)
          have neDB1 : D ≠ B1 := Nat.ne_of_lt (Nat.lt_of_lt_of_le lD g1)
          have geB2 : w.heap.size ≤ B2 := Nat.le_trans zw g2
          have neXB2 : X ≠ B2 := Nat.ne_of_lt (Nat.lt_of_lt_of_le lX g2)
          have neEB2 : E ≠ B2 := Nat.ne_of_lt (Nat.lt_of_lt_of_le lE g2)
          have neAB2 : A ≠ B2 := Nat.ne_of_lt (Nat.lt_of_lt_of_le lA g2)
          have neDB2 : D ≠ B2 := Nat.ne_of_lt (Nat.lt_of_lt_of_le lD g2)
          have geB3 : w.heap.size ≤ B3 := Nat.le_trans zw g3
          have neXB3 : X ≠ B3 := Nat.ne_of_lt (Nat.lt_of_lt_of_le lX g3)
          have neEB3 : E ≠ B3 := Nat.ne_of_lt (Nat.lt_of_lt_of_le lE g3)
          have neAB3 : A ≠ B3 := Nat.ne_of_lt (Nat.lt_of_lt_of_le lA g3)
          have neDB3 : D ≠ B3 := Nat.ne_of_lt (Nat.lt_of_lt_of_le lD g3)
          have geB4 : w.heap.size ≤ B4 := Nat.le_trans zw g4
          have neXB4 : X ≠ B4 := Nat.ne_of_lt (Nat.lt_of_lt_of_le lX g4)
          have neEB4 : E ≠ B4 := Nat.ne_of_lt (Nat.lt_of_lt_of_le lE g4)
          have neAB4 : A ≠ B4 := Nat.ne_of_lt (Nat.lt_of_lt_of_le lA g4)
          have neDB4 : D ≠ B4 := Nat.ne_of_lt (Nat.lt_of_lt_of_le lD g4)
          have geB5 : w.heap.size ≤ B5 := Nat.le_trans zw g5
          have neXB5 : X ≠ B5 := Nat.ne_of_lt (Nat.lt_of_lt_of_le lX g5)
          have neEB5 : E ≠ B5 := Nat.ne_of_lt (Nat.lt_of_lt_of_le lE g5)
          have neAB5 : A ≠ B5 := Nat.ne_of_lt (Nat.lt_of_lt_of_le lA g5)
          have neDB5 : D ≠ B5 := Nat.ne_of_lt (Nat.lt_of_lt_of_le lD g5)
          clear zw lX lE lA lD g1 g2 g3 g4 g5
          have X_15 : Row y50 X 42 (mcs m) := X_14.old hB50
          have E_15 : Row y50 E 24 (u8s l) := E_14.old hB50
          have A_15 : Row y50 A 38 (acs a) := A_14.old hB50
          have D_15 : Row y50 D 24 (u8s d) := D_14.old hB50
          have bel_15 : Below w.heap.size w y50 := below_step bel_14 bel_14.size hB50
          clear X_14 E_14 A_14 D_14 bel_14 hB50
          simp only [List.foldl_cons, List.foldl_nil, List.zip_cons_cons, List.zip_nil_right, setA, putA]
          try simp only [Act.put, List.setIfInBounds_toArray, List.set_cons_zero, List.set_cons_succ]
          refine h_one (i := 10) (by kernel_rfl) (o_skip rfl rfl (by kernel_rfl) (run_op_store _ _ _ rfl B1 (0) rfl (mcs m) rfl _ _ r1 (fitM K.out) (mcs_one _) SX.out) ?_)
          have rq := row_setRow r1 (lay (mcs zm) (0) (mcs m))
          have oq := Only.setRow B1 y50 (lay (mcs zm) (0) (mcs m)).toArray
          generalize y50.setRow B1 (lay (mcs zm) (0) (mcs m)).toArray = y16 at rq oq ⊢
          have X_17 : Row y16 X 42 (mcs m) := X_15.only oq neXB1
          have E_17 : Row y16 E 24 (u8s l) := E_15.only oq neEB1
          have A_17 : Row y16 A 38 (acs a) := A_15.only oq neAB1
          have D_17 : Row y16 D 24 (u8s d) := D_15.only oq neDB1
          have B1_17 : Row y16 B1 42 (mcs m) := rq.congr (allM K.out)
          have B2_17 : Row y16 B2 42 (mcs zm) := r2.only oq (Ne.symm x12)
          have B3_17 : Row y16 B3 42 (mcs zm) := r3.only oq (Ne.symm x13)
          have B4_17 : Row y16 B4 42 (mcs zm) := r4.only oq (Ne.symm x14)
          have B5_17 : Row y16 B5 42 (mcs zm) := r5.only oq (Ne.symm x15)
          have bel_17 : Below w.heap.size w y16 := below_only bel_15 oq geB1 bel_15.size
          clear X_15 E_15 A_15 D_15 r1 r2 r3 r4 r5 bel_15 oq
          clear rq
          refine ⟨⟨X_17, trivial⟩, ?_⟩
          refine h_one (i := 11) (by kernel_rfl) (o_skip rfl rfl (by kernel_rfl) (run_op_store _ _ _ rfl B2 (0) rfl (mcs m) rfl _ _ B2_17 (fitM K.out) (mcs_one _) SX.out) ?_)
          have rq := row_setRow B2_17 (lay (mcs zm) (0) (mcs m))
          have oq := Only.setRow B2 y16 (lay (mcs zm) (0) (mcs m)).toArray
          generalize y16.setRow B2 (lay (mcs zm) (0) (mcs m)).toArray = y18 at rq oq ⊢
          have X_19 : Row y18 X 42 (mcs m) := X_17.only oq neXB2
          have E_19 : Row y18 E 24 (u8s l) := E_17.only oq neEB2
          have A_19 : Row y18 A 38 (acs a) := A_17.only oq neAB2
          have D_19 : Row y18 D 24 (u8s d) := D_17.only oq neDB2
          have B1_19 : Row y18 B1 42 (mcs m) := B1_17.only oq x12
          have B2_19 : Row y18 B2 42 (mcs m) := rq.congr (allM K.out)
          have B3_19 : Row y18 B3 42 (mcs zm) := B3_17.only oq (Ne.symm x23)
          have B4_19 : Row y18 B4 42 (mcs zm) := B4_17.only oq (Ne.symm x24)
          have B5_19 : Row y18 B5 42 (mcs zm) := B5_17.only oq (Ne.symm x25)
          have bel_19 : Below w.heap.size w y18 := below_only bel_17 oq geB2 bel_17.size
          clear X_17 E_17 A_17 D_17 B1_17 B2_17 B3_17 B4_17 B5_17 bel_17 oq
          clear rq
          refine ⟨⟨X_19, trivial⟩, ?_⟩
          refine h_one (i := 12) (by kernel_rfl) (o_skip rfl rfl (by kernel_rfl) (run_op_store _ _ _ rfl B3 (0) rfl (mcs m) rfl _ _ B3_19 (fitM K.out) (mcs_one _) SX.out) ?_)
          have rq := row_setRow B3_19 (lay (mcs zm) (0) (mcs m))
          have oq := Only.setRow B3 y18 (lay (mcs zm) (0) (mcs m)).toArray
          generalize y18.setRow B3 (lay (mcs zm) (0) (mcs m)).toArray = y20 at rq oq ⊢
          have X_21 : Row y20 X 42 (mcs m) := X_19.only oq neXB3
          have E_21 : Row y20 E 24 (u8s l) := E_19.only oq neEB3
          have A_21 : Row y20 A 38 (acs a) := A_19.only oq neAB3
          have D_21 : Row y20 D 24 (u8s d) := D_19.only oq neDB3
          have B1_21 : Row y20 B1 42 (mcs m) := B1_19.only oq x13
          have B2_21 : Row y20 B2 42 (mcs m) := B2_19.only oq x23
          have B3_21 : Row y20 B3 42 (mcs m) := rq.congr (allM K.out)
          have B4_21 : Row y20 B4 42 (mcs zm) := B4_19.only oq (Ne.symm x34)
          have B5_21 : Row y20 B5 42 (mcs zm) := B5_19.only oq (Ne.symm x35)
          have bel_21 : Below w.heap.size w y20 := below_only bel_19 oq geB3 bel_19.size
          clear X_19 E_19 A_19 D_19 B1_19 B2_19 B3_19 B4_19 B5_19 bel_19 oq
          clear rq
          refine ⟨⟨X_21, trivial⟩, ?_⟩
          refine h_one (i := 13) (by kernel_rfl) (o_skip rfl rfl (by kernel_rfl) (run_op_store _ _ _ rfl B4 (0) rfl (mcs m) rfl _ _ B4_21 (fitM K.out) (mcs_one _) SX.out) ?_)
          have rq := row_setRow B4_21 (lay (mcs zm) (0) (mcs m))
          have oq := Only.setRow B4 y20 (lay (mcs zm) (0) (mcs m)).toArray
          generalize y20.setRow B4 (lay (mcs zm) (0) (mcs m)).toArray = y22 at rq oq ⊢
          have X_23 : Row y22 X 42 (mcs m) := X_21.only oq neXB4
          have E_23 : Row y22 E 24 (u8s l) := E_21.only oq neEB4
          have A_23 : Row y22 A 38 (acs a) := A_21.only oq neAB4
          have D_23 : Row y22 D 24 (u8s d) := D_21.only oq neDB4
          have B1_23 : Row y22 B1 42 (mcs m) := B1_21.only oq x14
          have B2_23 : Row y22 B2 42 (mcs m) := B2_21.only oq x24
          have B3_23 : Row y22 B3 42 (mcs m) := B3_21.only oq x34
          have B4_23 : Row y22 B4 42 (mcs m) := rq.congr (allM K.out)
          have B5_23 : Row y22 B5 42 (mcs zm) := B5_21.only oq (Ne.symm x45)
          have bel_23 : Below w.heap.size w y22 := below_only bel_21 oq geB4 bel_21.size
          clear X_21 E_21 A_21 D_21 B1_21 B2_21 B3_21 B4_21 B5_21 bel_21 oq
          clear rq
          refine ⟨⟨X_23, trivial⟩, ?_⟩
          refine h_one (i := 14) (by kernel_rfl) (o_skip rfl rfl (by kernel_rfl) (run_op_store _ _ _ rfl B5 (0) rfl (mcs m) rfl _ _ B5_23 (fitM K.out) (mcs_one _) SX.out) ?_)
          have rq := row_setRow B5_23 (lay (mcs zm) (0) (mcs m))
          have oq := Only.setRow B5 y22 (lay (mcs zm) (0) (mcs m)).toArray
          generalize y22.setRow B5 (lay (mcs zm) (0) (mcs m)).toArray = y24 at rq oq ⊢
          have X_25 : Row y24 X 42 (mcs m) := X_23.only oq neXB5
          have E_25 : Row y24 E 24 (u8s l) := E_23.only oq neEB5
          have A_25 : Row y24 A 38 (acs a) := A_23.only oq neAB5
          have D_25 : Row y24 D 24 (u8s d) := D_23.only oq neDB5
          have B1_25 : Row y24 B1 42 (mcs m) := B1_23.only oq x15
          have B2_25 : Row y24 B2 42 (mcs m) := B2_23.only oq x25
          have B3_25 : Row y24 B3 42 (mcs m) := B3_23.only oq x35
          have B4_25 : Row y24 B4 42 (mcs m) := B4_23.only oq x45
          have B5_25 : Row y24 B5 42 (mcs m) := rq.congr (allM K.out)
          have bel_25 : Below w.heap.size w y24 := below_only bel_23 oq geB5 bel_23.size
          clear X_23 E_23 A_23 D_23 B1_23 B2_23 B3_23 B4_23 B5_23 bel_23 oq
          clear rq
          refine ⟨⟨X_25, trivial⟩, ?_⟩
          refine wpAnyH_done (by kernel_rfl) ?_ _
          go_wp2_with fail
          refine wp_region_held (S := fun w' => Row w' E 24 (u8s l) ∧ Row w' A 38 (acs a) ∧ Row w' D 24 (u8s d) ∧ True) (by kernel_rfl) ?_
          change wpAnyH _ _ _ _ _ _ _ _ y24.drew
          have hd26 : Below y24.heap.size y24 y24.drew := (Below.refl _ _).drew
          have X_27 : Row y24.drew X 42 (mcs m) := X_25.old hd26
          have E_27 : Row y24.drew E 24 (u8s l) := E_25.old hd26
          have A_27 : Row y24.drew A 38 (acs a) := A_25.old hd26
          have D_27 : Row y24.drew D 24 (u8s d) := D_25.old hd26
          have B1_27 : Row y24.drew B1 42 (mcs m) := B1_25.old hd26
          have B2_27 : Row y24.drew B2 42 (mcs m) := B2_25.old hd26
          have B3_27 : Row y24.drew B3 42 (mcs m) := B3_25.old hd26
          have B4_27 : Row y24.drew B4 42 (mcs m) := B4_25.old hd26
          have B5_27 : Row y24.drew B5 42 (mcs m) := B5_25.old hd26
          have bel_27 : Below w.heap.size w y24.drew := below_step bel_25 bel_25.size hd26
          clear X_25 E_25 A_25 D_25 B1_25 B2_25 B3_25 B4_25 B5_25 bel_25 hd26
          generalize y24.drew = yz26 at X_27 E_27 A_27 D_27 B1_27 B2_27 B3_27 B4_27 B5_27 bel_27 ⊢
          refine h_take 0 (.int .u32 (v : Int)) rfl 42 rfl (by kernel_rfl) (by kernel_rfl) (by kernel_rfl) (by kernel_rfl) (fun _ _ _ h => h) (fun w' _ => by kernel_rfl) ⟨E_27, A_27, D_27, trivial⟩ ?_
          simp only [Act.put, List.setIfInBounds_toArray, List.set_cons_zero, List.set_cons_succ]
          refine h_take 1 (.agg (u8s l).toArray) rfl 43 rfl (by kernel_rfl) (by kernel_rfl) (by kernel_rfl) (by kernel_rfl) (fun _ _ _ h => h) (fun w' hw => run_op_load _ _ rfl E (0) rfl (u8s l) (((Has.refl _)).range hw.1) ((szH KL.out))) ⟨E_27, A_27, D_27, trivial⟩ ?_
          simp only [Act.put, List.setIfInBounds_toArray, List.set_cons_zero, List.set_cons_succ]
          refine h_take 2 (.int .i64 pl) rfl 44 rfl (by kernel_rfl) (by kernel_rfl) (by kernel_rfl) (by kernel_rfl) (fun _ _ _ h => h) (fun w' _ => by kernel_rfl) ⟨E_27, A_27, D_27, trivial⟩ ?_
          simp only [Act.put, List.setIfInBounds_toArray, List.set_cons_zero, List.set_cons_succ]
          refine h_take 3 (.agg (acs a).toArray) rfl 45 rfl (by kernel_rfl) (by kernel_rfl) (by kernel_rfl) (by kernel_rfl) (fun _ _ _ h => h) (fun w' hw => run_op_load _ _ rfl A (0) rfl (acs a) (((Has.refl _)).range hw.2.1) ((sz_acc a))) ⟨E_27, A_27, D_27, trivial⟩ ?_
          simp only [Act.put, List.setIfInBounds_toArray, List.set_cons_zero, List.set_cons_succ]
          refine h_take 4 (.agg (u8s d).toArray) rfl 46 rfl (by kernel_rfl) (by kernel_rfl) (by kernel_rfl) (by kernel_rfl) (fun _ _ _ h => h) (fun w' hw => run_op_load _ _ rfl D (0) rfl (u8s d) (((Has.refl _)).range hw.2.2.1) ((szH KD.out))) ⟨E_27, A_27, D_27, trivial⟩ ?_
          simp only [Act.put, List.setIfInBounds_toArray, List.set_cons_zero, List.set_cons_succ]
          refine h_take 14 (.pointer (some ⟨B5, 369, none⟩)) rfl 52 rfl (by kernel_rfl) (by kernel_rfl) (by kernel_rfl) (by kernel_rfl) (fun _ _ _ h => h) (fun w' _ => by kernel_rfl) ⟨E_27, A_27, D_27, trivial⟩ ?_
          simp only [Act.put, List.setIfInBounds_toArray, List.set_cons_zero, List.set_cons_succ]
          refine h_take 5 (.pointer (some ⟨B1, 1, none⟩)) rfl 47 rfl (by kernel_rfl) (by kernel_rfl) (by kernel_rfl) (by kernel_rfl) (fun _ _ _ h => h) (fun w' _ => by kernel_rfl) ⟨E_27, A_27, D_27, trivial⟩ ?_
          simp only [Act.put, List.setIfInBounds_toArray, List.set_cons_zero, List.set_cons_succ]
          refine h_one (i := 6) (by kernel_rfl) (o_skip rfl rfl (by kernel_rfl) (run_op_storeV _ _ _ rfl B1 1 rfl (.int .u32 (v : Int)) rfl (one_i _ _) (by kernel_rfl) _ _ B1_27 (lt_m K.out (by decide))) ?_)
          have rq := row_setRow B1_27 ((mcs m).set 1 (.int .u32 (v : Int)))
          have oq := Only.setRow B1 yz26 ((mcs m).set 1 (.int .u32 (v : Int))).toArray
          generalize yz26.setRow B1 ((mcs m).set 1 (.int .u32 (v : Int))).toArray = y28 at rq oq ⊢
          have X_29 : Row y28 X 42 (mcs m) := X_27.only oq neXB1
          have E_29 : Row y28 E 24 (u8s l) := E_27.only oq neEB1
          have A_29 : Row y28 A 38 (acs a) := A_27.only oq neAB1
          have D_29 : Row y28 D 24 (u8s d) := D_27.only oq neDB1
          have B1_29 : Row y28 B1 42 (mcs m1) := rq.congr HSET1.out
          have B2_29 : Row y28 B2 42 (mcs m) := B2_27.only oq (Ne.symm x12)
          have B3_29 : Row y28 B3 42 (mcs m) := B3_27.only oq (Ne.symm x13)
          have B4_29 : Row y28 B4 42 (mcs m) := B4_27.only oq (Ne.symm x14)
          have B5_29 : Row y28 B5 42 (mcs m) := B5_27.only oq (Ne.symm x15)
          have bel_29 : Below w.heap.size w y28 := below_only bel_27 oq geB1 bel_27.size
          clear X_27 E_27 A_27 D_27 B1_27 B2_27 B3_27 B4_27 B5_27 bel_27 oq
          clear rq
          refine ⟨⟨E_29, A_29, D_29, trivial⟩, ?_⟩
          refine h_take 7 (.pointer (some ⟨B2, 2, none⟩)) rfl 48 rfl (by kernel_rfl) (by kernel_rfl) (by kernel_rfl) (by kernel_rfl) (fun _ _ _ h => h) (fun w' _ => by kernel_rfl) ⟨E_29, A_29, D_29, trivial⟩ ?_
          simp only [Act.put, List.setIfInBounds_toArray, List.set_cons_zero, List.set_cons_succ]
          refine h_take 8 (.pointer (some ⟨B2, 34, none⟩)) rfl 49 rfl (by kernel_rfl) (by kernel_rfl) (by kernel_rfl) (by kernel_rfl) (fun _ _ _ h => h) (fun w' _ => by kernel_rfl) ⟨E_29, A_29, D_29, trivial⟩ ?_
          simp only [Act.put, List.setIfInBounds_toArray, List.set_cons_zero, List.set_cons_succ]
          refine h_one (i := 9) (by kernel_rfl) (o_skip rfl rfl (by kernel_rfl) (run_op_store _ _ _ rfl B2 (34) rfl (u8s l) rfl _ _ B2_29 (by rw [h_len KL.out, mcs_len K.out]; omega) (u8s_one _) (szH KL.out)) ?_)
          have rq := row_setRow B2_29 (lay (mcs m) (34) (u8s l))
          have oq := Only.setRow B2 y28 (lay (mcs m) (34) (u8s l)).toArray
          generalize y28.setRow B2 (lay (mcs m) (34) (u8s l)).toArray = y30 at rq oq ⊢
          have X_31 : Row y30 X 42 (mcs m) := X_29.only oq neXB2
          have E_31 : Row y30 E 24 (u8s l) := E_29.only oq neEB2
          have A_31 : Row y30 A 38 (acs a) := A_29.only oq neAB2
          have D_31 : Row y30 D 24 (u8s d) := D_29.only oq neDB2
          have B1_31 : Row y30 B1 42 (mcs m1) := B1_29.only oq x12
          have B2_31 : Row y30 B2 42 (mcs m2) := rq.congr HSET2.out
          have B3_31 : Row y30 B3 42 (mcs m) := B3_29.only oq (Ne.symm x23)
          have B4_31 : Row y30 B4 42 (mcs m) := B4_29.only oq (Ne.symm x24)
          have B5_31 : Row y30 B5 42 (mcs m) := B5_29.only oq (Ne.symm x25)
          have bel_31 : Below w.heap.size w y30 := below_only bel_29 oq geB2 bel_29.size
          clear X_29 E_29 A_29 D_29 B1_29 B2_29 B3_29 B4_29 B5_29 bel_29 oq
          clear rq
          refine ⟨⟨E_31, A_31, D_31, trivial⟩, ?_⟩
          refine h_take 10 (.pointer (some ⟨B3, 365, none⟩)) rfl 50 rfl (by kernel_rfl) (by kernel_rfl) (by kernel_rfl) (by kernel_rfl) (fun _ _ _ h => h) (fun w' _ => by kernel_rfl) ⟨E_31, A_31, D_31, trivial⟩ ?_
          simp only [Act.put, List.setIfInBounds_toArray, List.set_cons_zero, List.set_cons_succ]
          refine h_one (i := 11) (by kernel_rfl) (o_skip rfl rfl (by kernel_rfl) (run_op_storeV _ _ _ rfl B3 365 rfl (.int .i64 pl) rfl (one_i _ _) (by kernel_rfl) _ _ B3_31 (lt_m K.out (by decide))) ?_)
          have rq := row_setRow B3_31 ((mcs m).set 365 (.int .i64 pl))
          have oq := Only.setRow B3 y30 ((mcs m).set 365 (.int .i64 pl)).toArray
          generalize y30.setRow B3 ((mcs m).set 365 (.int .i64 pl)).toArray = y32 at rq oq ⊢
          have X_33 : Row y32 X 42 (mcs m) := X_31.only oq neXB3
          have E_33 : Row y32 E 24 (u8s l) := E_31.only oq neEB3
          have A_33 : Row y32 A 38 (acs a) := A_31.only oq neAB3
          have D_33 : Row y32 D 24 (u8s d) := D_31.only oq neDB3
          have B1_33 : Row y32 B1 42 (mcs m1) := B1_31.only oq x13
          have B2_33 : Row y32 B2 42 (mcs m2) := B2_31.only oq x23
          have B3_33 : Row y32 B3 42 (mcs m3) := rq.congr HSET3.out
          have B4_33 : Row y32 B4 42 (mcs m) := B4_31.only oq (Ne.symm x34)
          have B5_33 : Row y32 B5 42 (mcs m) := B5_31.only oq (Ne.symm x35)
          have bel_33 : Below w.heap.size w y32 := below_only bel_31 oq geB3 bel_31.size
          clear X_31 E_31 A_31 D_31 B1_31 B2_31 B3_31 B4_31 B5_31 bel_31 oq
          clear rq
          refine ⟨⟨E_33, A_33, D_33, trivial⟩, ?_⟩
          refine h_take 12 (.pointer (some ⟨B4, 366, none⟩)) rfl 51 rfl (by kernel_rfl) (by kernel_rfl) (by kernel_rfl) (by kernel_rfl) (fun _ _ _ h => h) (fun w' _ => by kernel_rfl) ⟨E_33, A_33, D_33, trivial⟩ ?_
          simp only [Act.put, List.setIfInBounds_toArray, List.set_cons_zero, List.set_cons_succ]
          refine h_one (i := 13) (by kernel_rfl) (o_skip rfl rfl (by kernel_rfl) (run_op_store _ _ _ rfl B4 (366) rfl (acs a) rfl _ _ B4_33 (by rw [acs_len, mcs_len K.out]; omega) (acs_one _) (sz_acc a)) ?_)
          have rq := row_setRow B4_33 (lay (mcs m) (366) (acs a))
          have oq := Only.setRow B4 y32 (lay (mcs m) (366) (acs a)).toArray
          generalize y32.setRow B4 (lay (mcs m) (366) (acs a)).toArray = y34 at rq oq ⊢
          have X_35 : Row y34 X 42 (mcs m) := X_33.only oq neXB4
          have E_35 : Row y34 E 24 (u8s l) := E_33.only oq neEB4
          have A_35 : Row y34 A 38 (acs a) := A_33.only oq neAB4
          have D_35 : Row y34 D 24 (u8s d) := D_33.only oq neDB4
          have B1_35 : Row y34 B1 42 (mcs m1) := B1_33.only oq x14
          have B2_35 : Row y34 B2 42 (mcs m2) := B2_33.only oq x24
          have B3_35 : Row y34 B3 42 (mcs m3) := B3_33.only oq x34
          have B4_35 : Row y34 B4 42 (mcs m4) := rq.congr HSET4.out
          have B5_35 : Row y34 B5 42 (mcs m) := B5_33.only oq (Ne.symm x45)
          have bel_35 : Below w.heap.size w y34 := below_only bel_33 oq geB4 bel_33.size
          clear X_33 E_33 A_33 D_33 B1_33 B2_33 B3_33 B4_33 B5_33 bel_33 oq
          clear rq
          refine ⟨⟨E_35, A_35, D_35, trivial⟩, ?_⟩
          refine h_take 15 (.pointer (some ⟨B5, 369, none⟩)) rfl 53 rfl (by kernel_rfl) (by kernel_rfl) (by kernel_rfl) (by kernel_rfl) (fun _ _ _ h => h) (fun w' _ => run_op_arr _ _ _ rfl 4 24 32 (by kernel_rfl) (by kernel_rfl) B5 369 rfl .i64 _ rfl 0 rfl (by decide) 369 rfl w') ⟨E_35, A_35, D_35, trivial⟩ ?_
          simp only [Act.put, List.setIfInBounds_toArray, List.set_cons_zero, List.set_cons_succ]
          refine h_one (i := 16) (by kernel_rfl) (o_skip rfl rfl (by kernel_rfl) (run_op_store _ _ _ rfl B5 (369) rfl (u8s d) rfl _ _ B5_35 (by rw [h_len KD.out, mcs_len K.out]; omega) (u8s_one _) (szH KD.out)) ?_)
          have rq := row_setRow B5_35 (lay (mcs m) (369) (u8s d))
          have oq := Only.setRow B5 y34 (lay (mcs m) (369) (u8s d)).toArray
          generalize y34.setRow B5 (lay (mcs m) (369) (u8s d)).toArray = y36 at rq oq ⊢
          have X_37 : Row y36 X 42 (mcs m) := X_35.only oq neXB5
          have E_37 : Row y36 E 24 (u8s l) := E_35.only oq neEB5
          have A_37 : Row y36 A 38 (acs a) := A_35.only oq neAB5
          have D_37 : Row y36 D 24 (u8s d) := D_35.only oq neDB5
          have B1_37 : Row y36 B1 42 (mcs m1) := B1_35.only oq x15
          have B2_37 : Row y36 B2 42 (mcs m2) := B2_35.only oq x25
          have B3_37 : Row y36 B3 42 (mcs m3) := B3_35.only oq x35
          have B4_37 : Row y36 B4 42 (mcs m4) := B4_35.only oq x45
          have B5_37 : Row y36 B5 42 (mcs m5) := rq.congr HSET5.out
          have bel_37 : Below w.heap.size w y36 := below_only bel_35 oq geB5 bel_35.size
          clear X_35 E_35 A_35 D_35 B1_35 B2_35 B3_35 B4_35 B5_35 bel_35 oq
          clear rq
          refine ⟨⟨E_37, A_37, D_37, trivial⟩, ?_⟩
          refine wpAnyH_done (by kernel_rfl) ?_ _
          have ck := X_37.cell CK.out
          go_wp2_with (first
            | ((with_reducible refine at_slot 57 ?_); (refine arm_load (o := ⟨some 57, _, _, _, _, _⟩) rfl _ _ rfl B1 0 rfl (mcs m1) ((Has.refl _).range B1_37) (sz_msg K1.out) ?_); try simp only [Act.put, List.setIfInBounds_toArray, List.set_cons_zero, List.set_cons_succ]))
          clear ck
          refine (CR1.out _).mono ?_
          rintro e y38 ⟨rfl, hB⟩
          have X_39 : Row y38 X 42 (mcs m) := X_37.old hB
          have E_39 : Row y38 E 24 (u8s l) := E_37.old hB
          have A_39 : Row y38 A 38 (acs a) := A_37.old hB
          have D_39 : Row y38 D 24 (u8s d) := D_37.old hB
          have B1_39 : Row y38 B1 42 (mcs m1) := B1_37.old hB
          have B2_39 : Row y38 B2 42 (mcs m2) := B2_37.old hB
          have B3_39 : Row y38 B3 42 (mcs m3) := B3_37.old hB
          have B4_39 : Row y38 B4 42 (mcs m4) := B4_37.old hB
          have B5_39 : Row y38 B5 42 (mcs m5) := B5_37.old hB
          have bel_39 : Below w.heap.size w y38 := below_step bel_37 bel_37.size hB
          clear X_37 E_37 A_37 D_37 B1_37 B2_37 B3_37 B4_37 B5_37 bel_37 hB
          have ck := X_39.cell CK.out
          go_wp2_with (first
            | ((with_reducible refine at_slot 60 ?_); (refine arm_want (.bool b1) 60 rfl (by kernel_rfl) (cmp_eql _ _ .u32 (by kernel_rfl) _ _ rfl .u32 (v : Int) (0) rfl rfl b1 HI1.out _) ?_); try simp only [Act.put, List.setIfInBounds_toArray, List.set_cons_zero, List.set_cons_succ])
            | ((with_reducible refine at_slot 61 ?_); (refine arm_want (.bool true) 61 rfl (by kernel_rfl) (run_op_eqlBB _ _ _ rfl b1 b1 rfl rfl true HEB1.out _) ?_); try simp only [Act.put, List.setIfInBounds_toArray, List.set_cons_zero, List.set_cons_succ]))
          clear ck
          refine wp_region_held (S := fun w' => Row w' B3 42 (mcs m3) ∧ Row w' B4 42 (mcs m4) ∧ Row w' B5 42 (mcs m5) ∧ Row w' A 38 (acs a) ∧ Row w' D 24 (u8s d) ∧ True) (by kernel_rfl) ?_
          change wpAnyH _ _ _ _ _ _ _ _ y38.drew
          have hd40 : Below y38.heap.size y38 y38.drew := (Below.refl _ _).drew
          have X_41 : Row y38.drew X 42 (mcs m) := X_39.old hd40
          have E_41 : Row y38.drew E 24 (u8s l) := E_39.old hd40
          have A_41 : Row y38.drew A 38 (acs a) := A_39.old hd40
          have D_41 : Row y38.drew D 24 (u8s d) := D_39.old hd40
          have B1_41 : Row y38.drew B1 42 (mcs m1) := B1_39.old hd40
          have B2_41 : Row y38.drew B2 42 (mcs m2) := B2_39.old hd40
          have B3_41 : Row y38.drew B3 42 (mcs m3) := B3_39.old hd40
          have B4_41 : Row y38.drew B4 42 (mcs m4) := B4_39.old hd40
          have B5_41 : Row y38.drew B5 42 (mcs m5) := B5_39.old hd40
          have bel_41 : Below w.heap.size w y38.drew := below_step bel_39 bel_39.size hd40
          clear X_39 E_39 A_39 D_39 B1_39 B2_39 B3_39 B4_39 B5_39 bel_39 hd40
          generalize y38.drew = yz40 at X_41 E_41 A_41 D_41 B1_41 B2_41 B3_41 B4_41 B5_41 bel_41 ⊢
          refine h_take 0 (.bool true) rfl 77 rfl (by kernel_rfl) (by kernel_rfl) (by kernel_rfl) (by kernel_rfl) (fun _ _ _ h => h) (fun w' _ => by kernel_rfl) ⟨B3_41, B4_41, B5_41, A_41, D_41, trivial⟩ ?_
          simp only [Act.put, List.setIfInBounds_toArray, List.set_cons_zero, List.set_cons_succ]
          refine h_take 1 (.bool true) rfl 78 rfl (by kernel_rfl) (by kernel_rfl) (by kernel_rfl) (by kernel_rfl) (fun _ _ _ h => h) (fun w' _ => by kernel_rfl) ⟨B3_41, B4_41, B5_41, A_41, D_41, trivial⟩ ?_
          simp only [Act.put, List.setIfInBounds_toArray, List.set_cons_zero, List.set_cons_succ]
          refine h_take 2 (.agg (mcs m3).toArray) rfl 79 rfl (by kernel_rfl) (by kernel_rfl) (by kernel_rfl) (by kernel_rfl) (fun _ _ _ h => h) (fun w' hw => run_op_load _ _ rfl B3 (0) rfl (mcs m3) (((Has.refl _)).range hw.1) ((sz_msg K3.out))) ⟨B3_41, B4_41, B5_41, A_41, D_41, trivial⟩ ?_
          simp only [Act.put, List.setIfInBounds_toArray, List.set_cons_zero, List.set_cons_succ]
          refine h_take 4 (.int .i64 pl) rfl 81 rfl (by kernel_rfl) (by kernel_rfl) (by kernel_rfl) (by kernel_rfl) (fun _ _ _ h => h) (fun w' _ => by kernel_rfl) ⟨B3_41, B4_41, B5_41, A_41, D_41, trivial⟩ ?_
          simp only [Act.put, List.setIfInBounds_toArray, List.set_cons_zero, List.set_cons_succ]
          refine h_take 5 (.bool b3) rfl 82 rfl (by kernel_rfl) (by kernel_rfl) (by kernel_rfl) (by kernel_rfl) (fun _ _ _ h => h) (fun w' _ => cmp_eql _ _ .i64 (by kernel_rfl) _ _ rfl .i64 (pl) (0) rfl rfl b3 HI3.out w') ⟨B3_41, B4_41, B5_41, A_41, D_41, trivial⟩ ?_
          simp only [Act.put, List.setIfInBounds_toArray, List.set_cons_zero, List.set_cons_succ]
          refine h_one (i := 3) (by kernel_rfl) (o_call rfl 80 rfl (by kernel_rfl) (run_op_call 12 _ _ rfl #[.agg (mcs m3).toArray] (by simp only [List.map_toArray, List.map_cons, List.map_nil]; rfl) Try.func12 (by kernel_rfl) (by kernel_rfl) _) (CR3.out _) ?_)
          rintro e y42 ⟨rfl, hB⟩
          have X_43 : Row y42 X 42 (mcs m) := X_41.old hB
          have E_43 : Row y42 E 24 (u8s l) := E_41.old hB
          have A_43 : Row y42 A 38 (acs a) := A_41.old hB
          have D_43 : Row y42 D 24 (u8s d) := D_41.old hB
          have B1_43 : Row y42 B1 42 (mcs m1) := B1_41.old hB
          have B2_43 : Row y42 B2 42 (mcs m2) := B2_41.old hB
          have B3_43 : Row y42 B3 42 (mcs m3) := B3_41.old hB
          have B4_43 : Row y42 B4 42 (mcs m4) := B4_41.old hB
          have B5_43 : Row y42 B5 42 (mcs m5) := B5_41.old hB
          have bel_43 : Below w.heap.size w y42 := below_step bel_41 bel_41.size hB
          clear X_41 E_41 A_41 D_41 B1_41 B2_41 B3_41 B4_41 B5_41 bel_41 hB
          refine ⟨_, rfl, ⟨B3_43, B4_43, B5_43, A_43, D_43, trivial⟩, ?_⟩
          simp only [Act.put, List.setIfInBounds_toArray, List.set_cons_zero, List.set_cons_succ]
          refine h_take 6 (.bool true) rfl 83 rfl (by kernel_rfl) (by kernel_rfl) (by kernel_rfl) (by kernel_rfl) (fun _ _ _ h => h) (fun w' _ => run_op_eqlBB _ _ _ rfl b3 b3 rfl rfl true HEB3.out w') ⟨B3_43, B4_43, B5_43, A_43, D_43, trivial⟩ ?_
          simp only [Act.put, List.setIfInBounds_toArray, List.set_cons_zero, List.set_cons_succ]
          refine h_take 7 (.bool true) rfl 84 rfl (by kernel_rfl) (by kernel_rfl) (by kernel_rfl) (by kernel_rfl) (fun _ _ _ h => h) (fun w' _ => by kernel_rfl) ⟨B3_43, B4_43, B5_43, A_43, D_43, trivial⟩ ?_
          simp only [Act.put, List.setIfInBounds_toArray, List.set_cons_zero, List.set_cons_succ]
          refine h_take 8 (.bool true) rfl 85 rfl (by kernel_rfl) (by kernel_rfl) (by kernel_rfl) (by kernel_rfl) (fun _ _ _ h => h) (fun w' _ => by kernel_rfl) ⟨B3_43, B4_43, B5_43, A_43, D_43, trivial⟩ ?_
          simp only [Act.put, List.setIfInBounds_toArray, List.set_cons_zero, List.set_cons_succ]
          refine h_take 9 (.agg (mcs m4).toArray) rfl 86 rfl (by kernel_rfl) (by kernel_rfl) (by kernel_rfl) (by kernel_rfl) (fun _ _ _ h => h) (fun w' hw => run_op_load _ _ rfl B4 (0) rfl (mcs m4) (((Has.refl _)).range hw.2.1) ((sz_msg K4.out))) ⟨B3_43, B4_43, B5_43, A_43, D_43, trivial⟩ ?_
          simp only [Act.put, List.setIfInBounds_toArray, List.set_cons_zero, List.set_cons_succ]
          refine h_take 11 (.agg (acs a).toArray) rfl 88 rfl (by kernel_rfl) (by kernel_rfl) (by kernel_rfl) (by kernel_rfl) (fun _ _ _ h => h) (fun w' hw => run_op_load _ _ rfl A (0) rfl (acs a) (((Has.refl _)).range hw.2.2.2.1) ((sz_acc a))) ⟨B3_43, B4_43, B5_43, A_43, D_43, trivial⟩ ?_
          simp only [Act.put, List.setIfInBounds_toArray, List.set_cons_zero, List.set_cons_succ]
          refine h_take 12 (.agg (acs za).toArray) rfl 89 rfl (by kernel_rfl) (by kernel_rfl) (by kernel_rfl) (by kernel_rfl) (fun _ _ _ h => h) (fun w' _ => run_op_build _ _ rfl (acs za) (by simp only [List.map_toArray, List.map_nil]; exact built_za) w') ⟨B3_43, B4_43, B5_43, A_43, D_43, trivial⟩ ?_
          simp only [Act.put, List.setIfInBounds_toArray, List.set_cons_zero, List.set_cons_succ]
          refine h_take 13 (.bool b4) rfl 90 rfl (by kernel_rfl) (by kernel_rfl) (by kernel_rfl) (by kernel_rfl) (fun _ _ _ h => h) (fun w' _ => run_op_eqlA _ _ _ rfl a za rfl rfl b4 HI4.out w') ⟨B3_43, B4_43, B5_43, A_43, D_43, trivial⟩ ?_
          simp only [Act.put, List.setIfInBounds_toArray, List.set_cons_zero, List.set_cons_succ]
          refine h_one (i := 10) (by kernel_rfl) (o_call rfl 87 rfl (by kernel_rfl) (run_op_call 12 _ _ rfl #[.agg (mcs m4).toArray] (by simp only [List.map_toArray, List.map_cons, List.map_nil]; rfl) Try.func12 (by kernel_rfl) (by kernel_rfl) _) (CR4.out _) ?_)
          rintro e y44 ⟨rfl, hB⟩
          have X_45 : Row y44 X 42 (mcs m) := X_43.old hB
          have E_45 : Row y44 E 24 (u8s l) := E_43.old hB
          have A_45 : Row y44 A 38 (acs a) := A_43.old hB
          have D_45 : Row y44 D 24 (u8s d) := D_43.old hB
          have B1_45 : Row y44 B1 42 (mcs m1) := B1_43.old hB
          have B2_45 : Row y44 B2 42 (mcs m2) := B2_43.old hB
          have B3_45 : Row y44 B3 42 (mcs m3) := B3_43.old hB
          have B4_45 : Row y44 B4 42 (mcs m4) := B4_43.old hB
          have B5_45 : Row y44 B5 42 (mcs m5) := B5_43.old hB
          have bel_45 : Below w.heap.size w y44 := below_step bel_43 bel_43.size hB
          clear X_43 E_43 A_43 D_43 B1_43 B2_43 B3_43 B4_43 B5_43 bel_43 hB
          refine ⟨_, rfl, ⟨B3_45, B4_45, B5_45, A_45, D_45, trivial⟩, ?_⟩
          simp only [Act.put, List.setIfInBounds_toArray, List.set_cons_zero, List.set_cons_succ]
          refine h_take 14 (.bool true) rfl 91 rfl (by kernel_rfl) (by kernel_rfl) (by kernel_rfl) (by kernel_rfl) (fun _ _ _ h => h) (fun w' _ => run_op_eqlBB _ _ _ rfl b4 b4 rfl rfl true HEB4.out w') ⟨B3_45, B4_45, B5_45, A_45, D_45, trivial⟩ ?_
          simp only [Act.put, List.setIfInBounds_toArray, List.set_cons_zero, List.set_cons_succ]
          refine h_take 15 (.bool true) rfl 92 rfl (by kernel_rfl) (by kernel_rfl) (by kernel_rfl) (by kernel_rfl) (fun _ _ _ h => h) (fun w' _ => by kernel_rfl) ⟨B3_45, B4_45, B5_45, A_45, D_45, trivial⟩ ?_
          simp only [Act.put, List.setIfInBounds_toArray, List.set_cons_zero, List.set_cons_succ]
          refine h_take 16 (.bool true) rfl 93 rfl (by kernel_rfl) (by kernel_rfl) (by kernel_rfl) (by kernel_rfl) (fun _ _ _ h => h) (fun w' _ => by kernel_rfl) ⟨B3_45, B4_45, B5_45, A_45, D_45, trivial⟩ ?_
          simp only [Act.put, List.setIfInBounds_toArray, List.set_cons_zero, List.set_cons_succ]
          refine h_take 17 (.agg (mcs m5).toArray) rfl 94 rfl (by kernel_rfl) (by kernel_rfl) (by kernel_rfl) (by kernel_rfl) (fun _ _ _ h => h) (fun w' hw => run_op_load _ _ rfl B5 (0) rfl (mcs m5) (((Has.refl _)).range hw.2.2.1) ((sz_msg K5.out))) ⟨B3_45, B4_45, B5_45, A_45, D_45, trivial⟩ ?_
          simp only [Act.put, List.setIfInBounds_toArray, List.set_cons_zero, List.set_cons_succ]
          refine h_take 19 (.agg (u8s d).toArray) rfl 96 rfl (by kernel_rfl) (by kernel_rfl) (by kernel_rfl) (by kernel_rfl) (fun _ _ _ h => h) (fun w' hw => run_op_load _ _ rfl D (0) rfl (u8s d) (((Has.refl _)).range hw.2.2.2.2.1) ((szH KD.out))) ⟨B3_45, B4_45, B5_45, A_45, D_45, trivial⟩ ?_
          simp only [Act.put, List.setIfInBounds_toArray, List.set_cons_zero, List.set_cons_succ]
          refine h_take 20 (.agg (u8s zh).toArray) rfl 97 rfl (by kernel_rfl) (by kernel_rfl) (by kernel_rfl) (by kernel_rfl) (fun _ _ _ h => h) (fun w' _ => run_op_build _ _ rfl (u8s zh) (by simp only [List.map_toArray, List.map_nil]; exact zh_built) w') ⟨B3_45, B4_45, B5_45, A_45, D_45, trivial⟩ ?_
          simp only [Act.put, List.setIfInBounds_toArray, List.set_cons_zero, List.set_cons_succ]
          refine h_take 21 (.bool b5) rfl 98 rfl (by kernel_rfl) (by kernel_rfl) (by kernel_rfl) (by kernel_rfl) (fun _ _ _ h => h) (fun w' _ => run_op_eqlD KD.out zh_ok _ _ _ rfl rfl rfl b5 HI5.out w') ⟨B3_45, B4_45, B5_45, A_45, D_45, trivial⟩ ?_
          simp only [Act.put, List.setIfInBounds_toArray, List.set_cons_zero, List.set_cons_succ]
          refine h_one (i := 18) (by kernel_rfl) (o_call rfl 95 rfl (by kernel_rfl) (run_op_call 12 _ _ rfl #[.agg (mcs m5).toArray] (by simp only [List.map_toArray, List.map_cons, List.map_nil]; rfl) Try.func12 (by kernel_rfl) (by kernel_rfl) _) (CR5.out _) ?_)
          rintro e y46 ⟨rfl, hB⟩
          have X_47 : Row y46 X 42 (mcs m) := X_45.old hB
          have E_47 : Row y46 E 24 (u8s l) := E_45.old hB
          have A_47 : Row y46 A 38 (acs a) := A_45.old hB
          have D_47 : Row y46 D 24 (u8s d) := D_45.old hB
          have B1_47 : Row y46 B1 42 (mcs m1) := B1_45.old hB
          have B2_47 : Row y46 B2 42 (mcs m2) := B2_45.old hB
          have B3_47 : Row y46 B3 42 (mcs m3) := B3_45.old hB
          have B4_47 : Row y46 B4 42 (mcs m4) := B4_45.old hB
          have B5_47 : Row y46 B5 42 (mcs m5) := B5_45.old hB
          have bel_47 : Below w.heap.size w y46 := below_step bel_45 bel_45.size hB
          clear X_45 E_45 A_45 D_45 B1_45 B2_45 B3_45 B4_45 B5_45 bel_45 hB
          refine ⟨_, rfl, ⟨B3_47, B4_47, B5_47, A_47, D_47, trivial⟩, ?_⟩
          simp only [Act.put, List.setIfInBounds_toArray, List.set_cons_zero, List.set_cons_succ]
          refine h_take 22 (.bool true) rfl 99 rfl (by kernel_rfl) (by kernel_rfl) (by kernel_rfl) (by kernel_rfl) (fun _ _ _ h => h) (fun w' _ => run_op_eqlBB _ _ _ rfl b5 b5 rfl rfl true HEB5.out w') ⟨B3_47, B4_47, B5_47, A_47, D_47, trivial⟩ ?_
          simp only [Act.put, List.setIfInBounds_toArray, List.set_cons_zero, List.set_cons_succ]
          refine h_take 23 (.bool true) rfl 100 rfl (by kernel_rfl) (by kernel_rfl) (by kernel_rfl) (by kernel_rfl) (fun _ _ _ h => h) (fun w' _ => by kernel_rfl) ⟨B3_47, B4_47, B5_47, A_47, D_47, trivial⟩ ?_
          simp only [Act.put, List.setIfInBounds_toArray, List.set_cons_zero, List.set_cons_succ]
          refine h_take 24 (.bool true) rfl 18 rfl (by kernel_rfl) (by kernel_rfl) (by kernel_rfl) (by kernel_rfl) (fun _ _ _ h => h) (fun w' _ => by kernel_rfl) ⟨B3_47, B4_47, B5_47, A_47, D_47, trivial⟩ ?_
          simp only [Act.put, List.setIfInBounds_toArray, List.set_cons_zero, List.set_cons_succ]
          refine wpAnyH_done (by kernel_rfl) ?_ _
          go_wp2_with fail
          go_ret
          exact ⟨rfl, bel_47⟩
        · skip
          have n1 : ((q : Int) != 1) = true := by simp; omega
          have n2 : ((q : Int) != 2) = true := by simp; omega
          have n4 : ((q : Int) != 4) = true := by simp; omega
          obtain ⟨b1, hb1⟩ : ∃ b, b = ((v : Int) == 0) := ⟨_, rfl⟩
          have HB1 : Hid (mrB m1 = b1) := Lib.hid (mrB_eq ((HO1b.out (by omega)).trans (by rw [hb1]; simp)))
          have CR1 : Hid (∀ w0, Calls Try.prog 12 #[.agg (mcs m1).toArray] w0 fun e w' => e = .returned (.bool b1) ∧ Below w0.heap.size w0 w') := Lib.hid fun w0 => (mright_any m1 w0 K1.out).mono fun e w' h => ⟨by rw [h.1, HB1.out], h.2⟩
          have HI1 : Hid (decide ((v : Int) = 0) = b1) := Lib.hid (by rw [hb1, Bool.eq_iff_iff]; simp)
          clear hb1
          have HEB1 : Hid ((b1 == b1) = true) := Lib.hid (by simp)
          obtain ⟨b2, hb2⟩ : ∃ b, b = decide (l = zh) := ⟨_, rfl⟩
          have HB2 : Hid (mrB m2 = b2) := Lib.hid (mrB_eq ((HO2b.out (by omega)).trans (by rw [hb2]; simp)))
          have CR2 : Hid (∀ w0, Calls Try.prog 12 #[.agg (mcs m2).toArray] w0 fun e w' => e = .returned (.bool b2) ∧ Below w0.heap.size w0 w') := Lib.hid fun w0 => (mright_any m2 w0 K2.out).mono fun e w' h => ⟨by rw [h.1, HB2.out], h.2⟩
          have HI2 : Hid (b2 = true ↔ l = zh) := Lib.hid (by rw [hb2]; simp)
          have HEB2 : Hid ((b2 == b2) = true) := Lib.hid (by simp)
          clear hb2
          obtain ⟨b3, hb3⟩ : ∃ b, b = decide (pl = 0) := ⟨_, rfl⟩
          have HB3 : Hid (mrB m3 = b3) := Lib.hid (mrB_eq ((HO3b.out (by omega)).trans (by rw [hb3]; simp)))
          have CR3 : Hid (∀ w0, Calls Try.prog 12 #[.agg (mcs m3).toArray] w0 fun e w' => e = .returned (.bool b3) ∧ Below w0.heap.size w0 w') := Lib.hid fun w0 => (mright_any m3 w0 K3.out).mono fun e w' h => ⟨by rw [h.1, HB3.out], h.2⟩
          have HI3 : Hid (decide (pl = 0) = b3) := Lib.hid hb3.symm
          have HEB3 : Hid ((b3 == b3) = true) := Lib.hid (by simp)
          obtain ⟨b4, hb4⟩ : ∃ b : Bool, (b = true ↔ a = za) := ⟨@decide (a = za) (Classical.propDecidable _), @decide_eq_true_iff _ (Classical.propDecidable _)⟩
          have HB4 : Hid (mrB m4 = b4) := Lib.hid (mrB_eq ((HO4b.out (by omega)).trans hb4.symm))
          have CR4 : Hid (∀ w0, Calls Try.prog 12 #[.agg (mcs m4).toArray] w0 fun e w' => e = .returned (.bool b4) ∧ Below w0.heap.size w0 w') := Lib.hid fun w0 => (mright_any m4 w0 K4.out).mono fun e w' h => ⟨by rw [h.1, HB4.out], h.2⟩
          have HI4 := Lib.hid hb4
          have HEB4 : Hid ((b4 == b4) = true) := Lib.hid (by simp)
          obtain ⟨b5, hb5⟩ : ∃ b, b = decide (d = zh) := ⟨_, rfl⟩
          have HB5 : Hid (mrB m5 = b5) := Lib.hid (mrB_eq ((HO5b.out (by omega)).trans (by rw [hb5]; simp)))
          have CR5 : Hid (∀ w0, Calls Try.prog 12 #[.agg (mcs m5).toArray] w0 fun e w' => e = .returned (.bool b5) ∧ Below w0.heap.size w0 w') := Lib.hid fun w0 => (mright_any m5 w0 K5.out).mono fun e w' h => ⟨by rw [h.1, HB5.out], h.2⟩
          have HI5 : Hid (b5 = true ↔ d = zh) := Lib.hid (by rw [hb5]; simp)
          have HEB5 : Hid ((b5 == b5) = true) := Lib.hid (by simp)
          clear hb3 hb4 hb5
          clear hk hq4 HO1b HO2b HO3b HO4b HO5b
          go_enter Try.func5, Try.ntmps5
          go_wp2_with (first
            | ((with_reducible refine at_slot 6 ?_); (refine arm_box (o := ⟨some 6, _, _, _, _, _⟩) rfl _ _ rfl (mcs m) rfl ?_); intro X v1 Xe hv1 nv1; try simp only [Act.put, List.setIfInBounds_toArray, List.set_cons_zero, List.set_cons_succ])
            | ((with_reducible refine at_slot 8 ?_); (refine arm_box (o := ⟨some 8, _, _, _, _, _⟩) rfl _ _ rfl (u8s l) rfl ?_); intro E v2 Ee hv2 nv2; try simp only [Act.put, List.setIfInBounds_toArray, List.set_cons_zero, List.set_cons_succ])
            | ((with_reducible refine at_slot 10 ?_); (refine arm_box (o := ⟨some 10, _, _, _, _, _⟩) rfl _ _ rfl (acs a) rfl ?_); intro A v3 Ae hv3 nv3; try simp only [Act.put, List.setIfInBounds_toArray, List.set_cons_zero, List.set_cons_succ])
            | ((with_reducible refine at_slot 11 ?_); (refine arm_box (o := ⟨some 11, _, _, _, _, _⟩) rfl _ _ rfl (u8s d) rfl ?_); intro D v4 De hv4 nv4; try simp only [Act.put, List.setIfInBounds_toArray, List.set_cons_zero, List.set_cons_succ]))
          have hbv1 := nv1.below
          have rrv1 : Row v1 X 42 (mcs m) := hv1
          have hbv2 := nv2.below
          have rrv2 : Row v2 E 24 (u8s l) := hv2
          have hbv3 := nv3.below
          have rrv3 : Row v3 A 38 (acs a) := hv3
          have hbv4 := nv4.below
          have rrv4 : Row v4 D 24 (u8s d) := hv4
          have geX : w.heap.size ≤ X := by have := Xe.out; omega
          have lXx : w.heap.size ≤ X := by have := Xe.out; omega
          clear hv1 nv1 Xe
          have bel_5 : Below w.heap.size w v1 := hbv1
          clear hbv1
          have geE : w.heap.size ≤ E := by have := Ee.out; have := bel_5.size; omega
          have ltXE : X < E := by have := Ee.out; have := rrv1.lt; omega
          have lEx : v1.heap.size ≤ E := by have := Ee.out; omega
          clear hv2 nv2 Ee
          have X_6 : Row v2 X 42 (mcs m) := rrv1.old hbv2
          have bel_6 : Below w.heap.size w v2 := below_step bel_5 bel_5.size hbv2
          clear rrv1 bel_5 hbv2
          have geA : w.heap.size ≤ A := by have := Ae.out; have := bel_6.size; omega
          have ltEA : E < A := by have := Ae.out; have := rrv2.lt; omega
          have lAx : v2.heap.size ≤ A := by have := Ae.out; omega
          clear hv3 nv3 Ae
          have X_7 : Row v3 X 42 (mcs m) := X_6.old hbv3
          have E_7 : Row v3 E 24 (u8s l) := rrv2.old hbv3
          have bel_7 : Below w.heap.size w v3 := below_step bel_6 bel_6.size hbv3
          clear X_6 rrv2 bel_6 hbv3
          have geD : w.heap.size ≤ D := by have := De.out; have := bel_7.size; omega
          have ltAD : A < D := by have := De.out; have := rrv3.lt; omega
          have lDx : v3.heap.size ≤ D := by have := De.out; omega
          clear hv4 nv4 De
          have X_8 : Row v4 X 42 (mcs m) := X_7.old hbv4
          have E_8 : Row v4 E 24 (u8s l) := E_7.old hbv4
          have A_8 : Row v4 A 38 (acs a) := rrv3.old hbv4
          have bel_8 : Below w.heap.size w v4 := below_step bel_7 bel_7.size hbv4
          clear X_7 E_7 rrv3 bel_7 hbv4
          refine (CA.out _).mono ?_
          rintro e y9 ⟨rfl, hB⟩
          have X_10 : Row y9 X 42 (mcs m) := X_8.old hB
          have E_10 : Row y9 E 24 (u8s l) := E_8.old hB
          have A_10 : Row y9 A 38 (acs a) := A_8.old hB
          have D_10 : Row y9 D 24 (u8s d) := rrv4.old hB
          have bel_10 : Below w.heap.size w y9 := below_step bel_8 bel_8.size hB
          clear X_8 E_8 A_8 rrv4 bel_8 hB
          have cn := X_10.cell CN.out; have cna := A_10.cell CNA.out
          go_wp2_with (first
            | ((with_reducible refine at_slot 33 ?_); (refine arm_want (.agg (mcs m).toArray) 33 rfl (by kernel_rfl) (run_op_load _ _ rfl X 0 rfl (mcs m) ((Has.refl _).range X_10) SX.out) ?_); try simp only [Act.put, List.setIfInBounds_toArray, List.set_cons_zero, List.set_cons_succ]))
          refine (CR.out _).mono ?_
          rintro e y11 ⟨rfl, hB⟩
          have X_12 : Row y11 X 42 (mcs m) := X_10.old hB
          have E_12 : Row y11 E 24 (u8s l) := E_10.old hB
          have A_12 : Row y11 A 38 (acs a) := A_10.old hB
          have D_12 : Row y11 D 24 (u8s d) := D_10.old hB
          have bel_12 : Below w.heap.size w y11 := below_step bel_10 bel_10.size hB
          clear X_10 E_10 A_10 D_10 bel_10 hB
          clear cn cna
          go_wp2_with fail
          refine wp_region_held (S := fun w' => Row w' X 42 (mcs m) ∧ True) (by kernel_rfl) ?_
          change wpAnyH _ _ _ _ _ _ _ _ y11.drew
          have hd13 : Below y11.heap.size y11 y11.drew := (Below.refl _ _).drew
          have X_14 : Row y11.drew X 42 (mcs m) := X_12.old hd13
          have E_14 : Row y11.drew E 24 (u8s l) := E_12.old hd13
          have A_14 : Row y11.drew A 38 (acs a) := A_12.old hd13
          have D_14 : Row y11.drew D 24 (u8s d) := D_12.old hd13
          have bel_14 : Below w.heap.size w y11.drew := below_step bel_12 bel_12.size hd13
          clear X_12 E_12 A_12 D_12 bel_12 hd13
          generalize y11.drew = yz13 at X_14 E_14 A_14 D_14 bel_14 ⊢
          refine h_take 0 (.agg (mcs m).toArray) rfl 37 rfl (by kernel_rfl) (by kernel_rfl) (by kernel_rfl) (by kernel_rfl) (fun _ _ _ h => h) (fun w' hw => run_op_load _ _ rfl X (0) rfl (mcs m) (((Has.refl _)).range hw.1) (SX.out)) ⟨X_14, trivial⟩ ?_
          simp only [Act.put, List.setIfInBounds_toArray, List.set_cons_zero, List.set_cons_succ]
          refine h_take 1 (.agg (mcs m).toArray) rfl 38 rfl (by kernel_rfl) (by kernel_rfl) (by kernel_rfl) (by kernel_rfl) (fun _ _ _ h => h) (fun w' hw => run_op_load _ _ rfl X (0) rfl (mcs m) (((Has.refl _)).range hw.1) (SX.out)) ⟨X_14, trivial⟩ ?_
          simp only [Act.put, List.setIfInBounds_toArray, List.set_cons_zero, List.set_cons_succ]
          refine h_take 2 (.agg (mcs m).toArray) rfl 39 rfl (by kernel_rfl) (by kernel_rfl) (by kernel_rfl) (by kernel_rfl) (fun _ _ _ h => h) (fun w' hw => run_op_load _ _ rfl X (0) rfl (mcs m) (((Has.refl _)).range hw.1) (SX.out)) ⟨X_14, trivial⟩ ?_
          simp only [Act.put, List.setIfInBounds_toArray, List.set_cons_zero, List.set_cons_succ]
          refine h_take 3 (.agg (mcs m).toArray) rfl 40 rfl (by kernel_rfl) (by kernel_rfl) (by kernel_rfl) (by kernel_rfl) (fun _ _ _ h => h) (fun w' hw => run_op_load _ _ rfl X (0) rfl (mcs m) (((Has.refl _)).range hw.1) (SX.out)) ⟨X_14, trivial⟩ ?_
          simp only [Act.put, List.setIfInBounds_toArray, List.set_cons_zero, List.set_cons_succ]
          refine h_take 4 (.agg (mcs m).toArray) rfl 41 rfl (by kernel_rfl) (by kernel_rfl) (by kernel_rfl) (by kernel_rfl) (fun _ _ _ h => h) (fun w' hw => run_op_load _ _ rfl X (0) rfl (mcs m) (((Has.refl _)).range hw.1) (SX.out)) ⟨X_14, trivial⟩ ?_
          simp only [Act.put, List.setIfInBounds_toArray, List.set_cons_zero, List.set_cons_succ]
          have lX := X_14.lt; have lE := E_14.lt; have lA := A_14.lt; have lD := D_14.lt
          refine h_allocsN (S := _) 42 (mcs zm) z_msg 5 [(5, 13), (6, 14), (7, 15), (8, 16), (9, 17)] _ _ _ _ rfl (by kernel_rfl) (fun p hp => by
            simp only [List.mem_cons, List.not_mem_nil, or_false] at hp
            rcases hp with rfl | rfl | rfl | rfl | rfl <;> exact ⟨_, rfl, rfl, rfl, rfl⟩) (by decide) (by decide) (fun w' hb => ⟨X_14.old hb, trivial⟩) ?_
          intro bs y50 hbl hbn hbr hB50
          obtain ⟨B1, B2, B3, B4, B5, rfl⟩ : ∃ B1 B2 B3 B4 B5, bs = [B1, B2, B3, B4, B5] := by
            match bs, hbl with
            | [B1, B2, B3, B4, B5], _ => exact ⟨B1, B2, B3, B4, B5, rfl⟩
          simp only [List.nodup_cons, List.mem_cons, List.not_mem_nil, or_false, not_or] at hbn
          obtain ⟨⟨x12, x13, x14, x15⟩, ⟨x23, x24, x25⟩, ⟨x34, x35⟩, x45, _⟩ := hbn
          obtain ⟨g1, r1⟩ := hbr B1 (by simp)
          obtain ⟨g2, r2⟩ := hbr B2 (by simp)
          obtain ⟨g3, r3⟩ := hbr B3 (by simp)
          obtain ⟨g4, r4⟩ := hbr B4 (by simp)
          obtain ⟨g5, r5⟩ := hbr B5 (by simp)
          clear hbr hbl
          have zw := bel_14.size
          have geB1 : w.heap.size ≤ B1 := Nat.le_trans zw g1
          have neXB1 : X ≠ B1 := Nat.ne_of_lt (Nat.lt_of_lt_of_le lX g1)
          have neEB1 : E ≠ B1 := Nat.ne_of_lt (Nat.lt_of_lt_of_le lE g1)
          have neAB1 : A ≠ B1 := Nat.ne_of_lt (Nat.lt_of_lt_of_le lA g1)
          have neDB1 : D ≠ B1 := Nat.ne_of_lt (Nat.lt_of_lt_of_le lD g1)
          have geB2 : w.heap.size ≤ B2 := Nat.le_trans zw g2
          have neXB2 : X ≠ B2 := Nat.ne_of_lt (Nat.lt_of_lt_of_le lX g2)
          have neEB2 : E ≠ B2 := Nat.ne_of_lt (Nat.lt_of_lt_of_le lE g2)
          have neAB2 : A ≠ B2 := Nat.ne_of_lt (Nat.lt_of_lt_of_le lA g2)
          have neDB2 : D ≠ B2 := Nat.ne_of_lt (Nat.lt_of_lt_of_le lD g2)
          have geB3 : w.heap.size ≤ B3 := Nat.le_trans zw g3
          have neXB3 : X ≠ B3 := Nat.ne_of_lt (Nat.lt_of_lt_of_le lX g3)
          have neEB3 : E ≠ B3 := Nat.ne_of_lt (Nat.lt_of_lt_of_le lE g3)
          have neAB3 : A ≠ B3 := Nat.ne_of_lt (Nat.lt_of_lt_of_le lA g3)
          have neDB3 : D ≠ B3 := Nat.ne_of_lt (Nat.lt_of_lt_of_le lD g3)
          have geB4 : w.heap.size ≤ B4 := Nat.le_trans zw g4
          have neXB4 : X ≠ B4 := Nat.ne_of_lt (Nat.lt_of_lt_of_le lX g4)
          have neEB4 : E ≠ B4 := Nat.ne_of_lt (Nat.lt_of_lt_of_le lE g4)
          have neAB4 : A ≠ B4 := Nat.ne_of_lt (Nat.lt_of_lt_of_le lA g4)
          have neDB4 : D ≠ B4 := Nat.ne_of_lt (Nat.lt_of_lt_of_le lD g4)
          have geB5 : w.heap.size ≤ B5 := Nat.le_trans zw g5
          have neXB5 : X ≠ B5 := Nat.ne_of_lt (Nat.lt_of_lt_of_le lX g5)
          have neEB5 : E ≠ B5 := Nat.ne_of_lt (Nat.lt_of_lt_of_le lE g5)
          have neAB5 : A ≠ B5 := Nat.ne_of_lt (Nat.lt_of_lt_of_le lA g5)
          have neDB5 : D ≠ B5 := Nat.ne_of_lt (Nat.lt_of_lt_of_le lD g5)
          clear zw lX lE lA lD g1 g2 g3 g4 g5
          have X_15 : Row y50 X 42 (mcs m) := X_14.old hB50
          have E_15 : Row y50 E 24 (u8s l) := E_14.old hB50
          have A_15 : Row y50 A 38 (acs a) := A_14.old hB50
          have D_15 : Row y50 D 24 (u8s d) := D_14.old hB50
          have bel_15 : Below w.heap.size w y50 := below_step bel_14 bel_14.size hB50
          clear X_14 E_14 A_14 D_14 bel_14 hB50
          simp only [List.foldl_cons, List.foldl_nil, List.zip_cons_cons, List.zip_nil_right, setA, putA]
          try simp only [Act.put, List.setIfInBounds_toArray, List.set_cons_zero, List.set_cons_succ]
          refine h_one (i := 10) (by kernel_rfl) (o_skip rfl rfl (by kernel_rfl) (run_op_store _ _ _ rfl B1 (0) rfl (mcs m) rfl _ _ r1 (fitM K.out) (mcs_one _) SX.out) ?_)
          have rq := row_setRow r1 (lay (mcs zm) (0) (mcs m))
          have oq := Only.setRow B1 y50 (lay (mcs zm) (0) (mcs m)).toArray
          generalize y50.setRow B1 (lay (mcs zm) (0) (mcs m)).toArray = y16 at rq oq ⊢
          have X_17 : Row y16 X 42 (mcs m) := X_15.only oq neXB1
          have E_17 : Row y16 E 24 (u8s l) := E_15.only oq neEB1
          have A_17 : Row y16 A 38 (acs a) := A_15.only oq neAB1
          have D_17 : Row y16 D 24 (u8s d) := D_15.only oq neDB1
          have B1_17 : Row y16 B1 42 (mcs m) := rq.congr (allM K.out)
          have B2_17 : Row y16 B2 42 (mcs zm) := r2.only oq (Ne.symm x12)
          have B3_17 : Row y16 B3 42 (mcs zm) := r3.only oq (Ne.symm x13)
          have B4_17 : Row y16 B4 42 (mcs zm) := r4.only oq (Ne.symm x14)
          have B5_17 : Row y16 B5 42 (mcs zm) := r5.only oq (Ne.symm x15)
          have bel_17 : Below w.heap.size w y16 := below_only bel_15 oq geB1 bel_15.size
          clear X_15 E_15 A_15 D_15 r1 r2 r3 r4 r5 bel_15 oq
          clear rq
          refine ⟨⟨X_17, trivial⟩, ?_⟩
          refine h_one (i := 11) (by kernel_rfl) (o_skip rfl rfl (by kernel_rfl) (run_op_store _ _ _ rfl B2 (0) rfl (mcs m) rfl _ _ B2_17 (fitM K.out) (mcs_one _) SX.out) ?_)
          have rq := row_setRow B2_17 (lay (mcs zm) (0) (mcs m))
          have oq := Only.setRow B2 y16 (lay (mcs zm) (0) (mcs m)).toArray
          generalize y16.setRow B2 (lay (mcs zm) (0) (mcs m)).toArray = y18 at rq oq ⊢
          have X_19 : Row y18 X 42 (mcs m) := X_17.only oq neXB2
          have E_19 : Row y18 E 24 (u8s l) := E_17.only oq neEB2
          have A_19 : Row y18 A 38 (acs a) := A_17.only oq neAB2
          have D_19 : Row y18 D 24 (u8s d) := D_17.only oq neDB2
          have B1_19 : Row y18 B1 42 (mcs m) := B1_17.only oq x12
          have B2_19 : Row y18 B2 42 (mcs m) := rq.congr (allM K.out)
          have B3_19 : Row y18 B3 42 (mcs zm) := B3_17.only oq (Ne.symm x23)
          have B4_19 : Row y18 B4 42 (mcs zm) := B4_17.only oq (Ne.symm x24)
          have B5_19 : Row y18 B5 42 (mcs zm) := B5_17.only oq (Ne.symm x25)
          have bel_19 : Below w.heap.size w y18 := below_only bel_17 oq geB2 bel_17.size
          clear X_17 E_17 A_17 D_17 B1_17 B2_17 B3_17 B4_17 B5_17 bel_17 oq
          clear rq
          refine ⟨⟨X_19, trivial⟩, ?_⟩
          refine h_one (i := 12) (by kernel_rfl) (o_skip rfl rfl (by kernel_rfl) (run_op_store _ _ _ rfl B3 (0) rfl (mcs m) rfl _ _ B3_19 (fitM K.out) (mcs_one _) SX.out) ?_)
          have rq := row_setRow B3_19 (lay (mcs zm) (0) (mcs m))
          have oq := Only.setRow B3 y18 (lay (mcs zm) (0) (mcs m)).toArray
          generalize y18.setRow B3 (lay (mcs zm) (0) (mcs m)).toArray = y20 at rq oq ⊢
          have X_21 : Row y20 X 42 (mcs m) := X_19.only oq neXB3
          have E_21 : Row y20 E 24 (u8s l) := E_19.only oq neEB3
          have A_21 : Row y20 A 38 (acs a) := A_19.only oq neAB3
          have D_21 : Row y20 D 24 (u8s d) := D_19.only oq neDB3
          have B1_21 : Row y20 B1 42 (mcs m) := B1_19.only oq x13
          have B2_21 : Row y20 B2 42 (mcs m) := B2_19.only oq x23
          have B3_21 : Row y20 B3 42 (mcs m) := rq.congr (allM K.out)
          have B4_21 : Row y20 B4 42 (mcs zm) := B4_19.only oq (Ne.symm x34)
          have B5_21 : Row y20 B5 42 (mcs zm) := B5_19.only oq (Ne.symm x35)
          have bel_21 : Below w.heap.size w y20 := below_only bel_19 oq geB3 bel_19.size
          clear X_19 E_19 A_19 D_19 B1_19 B2_19 B3_19 B4_19 B5_19 bel_19 oq
          clear rq
          refine ⟨⟨X_21, trivial⟩, ?_⟩
          refine h_one (i := 13) (by kernel_rfl) (o_skip rfl rfl (by kernel_rfl) (run_op_store _ _ _ rfl B4 (0) rfl (mcs m) rfl _ _ B4_21 (fitM K.out) (mcs_one _) SX.out) ?_)
          have rq := row_setRow B4_21 (lay (mcs zm) (0) (mcs m))
          have oq := Only.setRow B4 y20 (lay (mcs zm) (0) (mcs m)).toArray
          generalize y20.setRow B4 (lay (mcs zm) (0) (mcs m)).toArray = y22 at rq oq ⊢
          have X_23 : Row y22 X 42 (mcs m) := X_21.only oq neXB4
          have E_23 : Row y22 E 24 (u8s l) := E_21.only oq neEB4
          have A_23 : Row y22 A 38 (acs a) := A_21.only oq neAB4
          have D_23 : Row y22 D 24 (u8s d) := D_21.only oq neDB4
          have B1_23 : Row y22 B1 42 (mcs m) := B1_21.only oq x14
          have B2_23 : Row y22 B2 42 (mcs m) := B2_21.only oq x24
          have B3_23 : Row y22 B3 42 (mcs m) := B3_21.only oq x34
          have B4_23 : Row y22 B4 42 (mcs m) := rq.congr (allM K.out)
          have B5_23 : Row y22 B5 42 (mcs zm) := B5_21.only oq (Ne.symm x45)
          have bel_23 : Below w.heap.size w y22 := below_only bel_21 oq geB4 bel_21.size
          clear X_21 E_21 A_21 D_21 B1_21 B2_21 B3_21 B4_21 B5_21 bel_21 oq
          clear rq
          refine ⟨⟨X_23, trivial⟩, ?_⟩
          refine h_one (i := 14) (by kernel_rfl) (o_skip rfl rfl (by kernel_rfl) (run_op_store _ _ _ rfl B5 (0) rfl (mcs m) rfl _ _ B5_23 (fitM K.out) (mcs_one _) SX.out) ?_)
          have rq := row_setRow B5_23 (lay (mcs zm) (0) (mcs m))
          have oq := Only.setRow B5 y22 (lay (mcs zm) (0) (mcs m)).toArray
          generalize y22.setRow B5 (lay (mcs zm) (0) (mcs m)).toArray = y24 at rq oq ⊢
          have X_25 : Row y24 X 42 (mcs m) := X_23.only oq neXB5
          have E_25 : Row y24 E 24 (u8s l) := E_23.only oq neEB5
          have A_25 : Row y24 A 38 (acs a) := A_23.only oq neAB5
          have D_25 : Row y24 D 24 (u8s d) := D_23.only oq neDB5
          have B1_25 : Row y24 B1 42 (mcs m) := B1_23.only oq x15
          have B2_25 : Row y24 B2 42 (mcs m) := B2_23.only oq x25
          have B3_25 : Row y24 B3 42 (mcs m) := B3_23.only oq x35
          have B4_25 : Row y24 B4 42 (mcs m) := B4_23.only oq x45
          have B5_25 : Row y24 B5 42 (mcs m) := rq.congr (allM K.out)
          have bel_25 : Below w.heap.size w y24 := below_only bel_23 oq geB5 bel_23.size
          clear X_23 E_23 A_23 D_23 B1_23 B2_23 B3_23 B4_23 B5_23 bel_23 oq
          clear rq
          refine ⟨⟨X_25, trivial⟩, ?_⟩
          refine wpAnyH_done (by kernel_rfl) ?_ _
          go_wp2_with fail
          refine wp_region_held (S := fun w' => Row w' E 24 (u8s l) ∧ Row w' A 38 (acs a) ∧ Row w' D 24 (u8s d) ∧ True) (by kernel_rfl) ?_
          change wpAnyH _ _ _ _ _ _ _ _ y24.drew
          have hd26 : Below y24.heap.size y24 y24.drew := (Below.refl _ _).drew
          have X_27 : Row y24.drew X 42 (mcs m) := X_25.old hd26
          have E_27 : Row y24.drew E 24 (u8s l) := E_25.old hd26
          have A_27 : Row y24.drew A 38 (acs a) := A_25.old hd26
          have D_27 : Row y24.drew D 24 (u8s d) := D_25.old hd26
          have B1_27 : Row y24.drew B1 42 (mcs m) := B1_25.old hd26
          have B2_27 : Row y24.drew B2 42 (mcs m) := B2_25.old hd26
          have B3_27 : Row y24.drew B3 42 (mcs m) := B3_25.old hd26
          have B4_27 : Row y24.drew B4 42 (mcs m) := B4_25.old hd26
          have B5_27 : Row y24.drew B5 42 (mcs m) := B5_25.old hd26
          have bel_27 : Below w.heap.size w y24.drew := below_step bel_25 bel_25.size hd26
          clear X_25 E_25 A_25 D_25 B1_25 B2_25 B3_25 B4_25 B5_25 bel_25 hd26
          generalize y24.drew = yz26 at X_27 E_27 A_27 D_27 B1_27 B2_27 B3_27 B4_27 B5_27 bel_27 ⊢
          refine h_take 0 (.int .u32 (v : Int)) rfl 42 rfl (by kernel_rfl) (by kernel_rfl) (by kernel_rfl) (by kernel_rfl) (fun _ _ _ h => h) (fun w' _ => by kernel_rfl) ⟨E_27, A_27, D_27, trivial⟩ ?_
          simp only [Act.put, List.setIfInBounds_toArray, List.set_cons_zero, List.set_cons_succ]
          refine h_take 1 (.agg (u8s l).toArray) rfl 43 rfl (by kernel_rfl) (by kernel_rfl) (by kernel_rfl) (by kernel_rfl) (fun _ _ _ h => h) (fun w' hw => run_op_load _ _ rfl E (0) rfl (u8s l) (((Has.refl _)).range hw.1) ((szH KL.out))) ⟨E_27, A_27, D_27, trivial⟩ ?_
          simp only [Act.put, List.setIfInBounds_toArray, List.set_cons_zero, List.set_cons_succ]
          refine h_take 2 (.int .i64 pl) rfl 44 rfl (by kernel_rfl) (by kernel_rfl) (by kernel_rfl) (by kernel_rfl) (fun _ _ _ h => h) (fun w' _ => by kernel_rfl) ⟨E_27, A_27, D_27, trivial⟩ ?_
          simp only [Act.put, List.setIfInBounds_toArray, List.set_cons_zero, List.set_cons_succ]
          refine h_take 3 (.agg (acs a).toArray) rfl 45 rfl (by kernel_rfl) (by kernel_rfl) (by kernel_rfl) (by kernel_rfl) (fun _ _ _ h => h) (fun w' hw => run_op_load _ _ rfl A (0) rfl (acs a) (((Has.refl _)).range hw.2.1) ((sz_acc a))) ⟨E_27, A_27, D_27, trivial⟩ ?_
          simp only [Act.put, List.setIfInBounds_toArray, List.set_cons_zero, List.set_cons_succ]
          refine h_take 4 (.agg (u8s d).toArray) rfl 46 rfl (by kernel_rfl) (by kernel_rfl) (by kernel_rfl) (by kernel_rfl) (fun _ _ _ h => h) (fun w' hw => run_op_load _ _ rfl D (0) rfl (u8s d) (((Has.refl _)).range hw.2.2.1) ((szH KD.out))) ⟨E_27, A_27, D_27, trivial⟩ ?_
          simp only [Act.put, List.setIfInBounds_toArray, List.set_cons_zero, List.set_cons_succ]
          refine h_take 14 (.pointer (some ⟨B5, 369, none⟩)) rfl 52 rfl (by kernel_rfl) (by kernel_rfl) (by kernel_rfl) (by kernel_rfl) (fun _ _ _ h => h) (fun w' _ => by kernel_rfl) ⟨E_27, A_27, D_27, trivial⟩ ?_
          simp only [Act.put, List.setIfInBounds_toArray, List.set_cons_zero, List.set_cons_succ]
          refine h_take 5 (.pointer (some ⟨B1, 1, none⟩)) rfl 47 rfl (by kernel_rfl) (by kernel_rfl) (by kernel_rfl) (by kernel_rfl) (fun _ _ _ h => h) (fun w' _ => by kernel_rfl) ⟨E_27, A_27, D_27, trivial⟩ ?_
          simp only [Act.put, List.setIfInBounds_toArray, List.set_cons_zero, List.set_cons_succ]
          refine h_one (i := 6) (by kernel_rfl) (o_skip rfl rfl (by kernel_rfl) (run_op_storeV _ _ _ rfl B1 1 rfl (.int .u32 (v : Int)) rfl (one_i _ _) (by kernel_rfl) _ _ B1_27 (lt_m K.out (by decide))) ?_)
          have rq := row_setRow B1_27 ((mcs m).set 1 (.int .u32 (v : Int)))
          have oq := Only.setRow B1 yz26 ((mcs m).set 1 (.int .u32 (v : Int))).toArray
          generalize yz26.setRow B1 ((mcs m).set 1 (.int .u32 (v : Int))).toArray = y28 at rq oq ⊢
          have X_29 : Row y28 X 42 (mcs m) := X_27.only oq neXB1
          have E_29 : Row y28 E 24 (u8s l) := E_27.only oq neEB1
          have A_29 : Row y28 A 38 (acs a) := A_27.only oq neAB1
          have D_29 : Row y28 D 24 (u8s d) := D_27.only oq neDB1
          have B1_29 : Row y28 B1 42 (mcs m1) := rq.congr HSET1.out
          have B2_29 : Row y28 B2 42 (mcs m) := B2_27.only oq (Ne.symm x12)
          have B3_29 : Row y28 B3 42 (mcs m) := B3_27.only oq (Ne.symm x13)
          have B4_29 : Row y28 B4 42 (mcs m) := B4_27.only oq (Ne.symm x14)
          have B5_29 : Row y28 B5 42 (mcs m) := B5_27.only oq (Ne.symm x15)
          have bel_29 : Below w.heap.size w y28 := below_only bel_27 oq geB1 bel_27.size
          clear X_27 E_27 A_27 D_27 B1_27 B2_27 B3_27 B4_27 B5_27 bel_27 oq
          clear rq
          refine ⟨⟨E_29, A_29, D_29, trivial⟩, ?_⟩
          refine h_take 7 (.pointer (some ⟨B2, 2, none⟩)) rfl 48 rfl (by kernel_rfl) (by kernel_rfl) (by kernel_rfl) (by kernel_rfl) (fun _ _ _ h => h) (fun w' _ => by kernel_rfl) ⟨E_29, A_29, D_29, trivial⟩ ?_
          simp only [Act.put, List.setIfInBounds_toArray, List.set_cons_zero, List.set_cons_succ]
          refine h_take 8 (.pointer (some ⟨B2, 34, none⟩)) rfl 49 rfl (by kernel_rfl) (by kernel_rfl) (by kernel_rfl) (by kernel_rfl) (fun _ _ _ h => h) (fun w' _ => by kernel_rfl) ⟨E_29, A_29, D_29, trivial⟩ ?_
          simp only [Act.put, List.setIfInBounds_toArray, List.set_cons_zero, List.set_cons_succ]
          refine h_one (i := 9) (by kernel_rfl) (o_skip rfl rfl (by kernel_rfl) (run_op_store _ _ _ rfl B2 (34) rfl (u8s l) rfl _ _ B2_29 (by rw [h_len KL.out, mcs_len K.out]; omega) (u8s_one _) (szH KL.out)) ?_)
          have rq := row_setRow B2_29 (lay (mcs m) (34) (u8s l))
          have oq := Only.setRow B2 y28 (lay (mcs m) (34) (u8s l)).toArray
          generalize y28.setRow B2 (lay (mcs m) (34) (u8s l)).toArray = y30 at rq oq ⊢
          have X_31 : Row y30 X 42 (mcs m) := X_29.only oq neXB2
          have E_31 : Row y30 E 24 (u8s l) := E_29.only oq neEB2
          have A_31 : Row y30 A 38 (acs a) := A_29.only oq neAB2
          have D_31 : Row y30 D 24 (u8s d) := D_29.only oq neDB2
          have B1_31 : Row y30 B1 42 (mcs m1) := B1_29.only oq x12
          have B2_31 : Row y30 B2 42 (mcs m2) := rq.congr HSET2.out
          have B3_31 : Row y30 B3 42 (mcs m) := B3_29.only oq (Ne.symm x23)
          have B4_31 : Row y30 B4 42 (mcs m) := B4_29.only oq (Ne.symm x24)
          have B5_31 : Row y30 B5 42 (mcs m) := B5_29.only oq (Ne.symm x25)
          have bel_31 : Below w.heap.size w y30 := below_only bel_29 oq geB2 bel_29.size
          clear X_29 E_29 A_29 D_29 B1_29 B2_29 B3_29 B4_29 B5_29 bel_29 oq
          clear rq
          refine ⟨⟨E_31, A_31, D_31, trivial⟩, ?_⟩
          refine h_take 10 (.pointer (some ⟨B3, 365, none⟩)) rfl 50 rfl (by kernel_rfl) (by kernel_rfl) (by kernel_rfl) (by kernel_rfl) (fun _ _ _ h => h) (fun w' _ => by kernel_rfl) ⟨E_31, A_31, D_31, trivial⟩ ?_
          simp only [Act.put, List.setIfInBounds_toArray, List.set_cons_zero, List.set_cons_succ]
          refine h_one (i := 11) (by kernel_rfl) (o_skip rfl rfl (by kernel_rfl) (run_op_storeV _ _ _ rfl B3 365 rfl (.int .i64 pl) rfl (one_i _ _) (by kernel_rfl) _ _ B3_31 (lt_m K.out (by decide))) ?_)
          have rq := row_setRow B3_31 ((mcs m).set 365 (.int .i64 pl))
          have oq := Only.setRow B3 y30 ((mcs m).set 365 (.int .i64 pl)).toArray
          generalize y30.setRow B3 ((mcs m).set 365 (.int .i64 pl)).toArray = y32 at rq oq ⊢
          have X_33 : Row y32 X 42 (mcs m) := X_31.only oq neXB3
          have E_33 : Row y32 E 24 (u8s l) := E_31.only oq neEB3
          have A_33 : Row y32 A 38 (acs a) := A_31.only oq neAB3
          have D_33 : Row y32 D 24 (u8s d) := D_31.only oq neDB3
          have B1_33 : Row y32 B1 42 (mcs m1) := B1_31.only oq x13
          have B2_33 : Row y32 B2 42 (mcs m2) := B2_31.only oq x23
          have B3_33 : Row y32 B3 42 (mcs m3) := rq.congr HSET3.out
          have B4_33 : Row y32 B4 42 (mcs m) := B4_31.only oq (Ne.symm x34)
          have B5_33 : Row y32 B5 42 (mcs m) := B5_31.only oq (Ne.symm x35)
          have bel_33 : Below w.heap.size w y32 := below_only bel_31 oq geB3 bel_31.size
          clear X_31 E_31 A_31 D_31 B1_31 B2_31 B3_31 B4_31 B5_31 bel_31 oq
          clear rq
          refine ⟨⟨E_33, A_33, D_33, trivial⟩, ?_⟩
          refine h_take 12 (.pointer (some ⟨B4, 366, none⟩)) rfl 51 rfl (by kernel_rfl) (by kernel_rfl) (by kernel_rfl) (by kernel_rfl) (fun _ _ _ h => h) (fun w' _ => by kernel_rfl) ⟨E_33, A_33, D_33, trivial⟩ ?_
          simp only [Act.put, List.setIfInBounds_toArray, List.set_cons_zero, List.set_cons_succ]
          refine h_one (i := 13) (by kernel_rfl) (o_skip rfl rfl (by kernel_rfl) (run_op_store _ _ _ rfl B4 (366) rfl (acs a) rfl _ _ B4_33 (by rw [acs_len, mcs_len K.out]; omega) (acs_one _) (sz_acc a)) ?_)
          have rq := row_setRow B4_33 (lay (mcs m) (366) (acs a))
          have oq := Only.setRow B4 y32 (lay (mcs m) (366) (acs a)).toArray
          generalize y32.setRow B4 (lay (mcs m) (366) (acs a)).toArray = y34 at rq oq ⊢
          have X_35 : Row y34 X 42 (mcs m) := X_33.only oq neXB4
          have E_35 : Row y34 E 24 (u8s l) := E_33.only oq neEB4
          have A_35 : Row y34 A 38 (acs a) := A_33.only oq neAB4
          have D_35 : Row y34 D 24 (u8s d) := D_33.only oq neDB4
          have B1_35 : Row y34 B1 42 (mcs m1) := B1_33.only oq x14
          have B2_35 : Row y34 B2 42 (mcs m2) := B2_33.only oq x24
          have B3_35 : Row y34 B3 42 (mcs m3) := B3_33.only oq x34
          have B4_35 : Row y34 B4 42 (mcs m4) := rq.congr HSET4.out
          have B5_35 : Row y34 B5 42 (mcs m) := B5_33.only oq (Ne.symm x45)
          have bel_35 : Below w.heap.size w y34 := below_only bel_33 oq geB4 bel_33.size
          clear X_33 E_33 A_33 D_33 B1_33 B2_33 B3_33 B4_33 B5_33 bel_33 oq
          clear rq
          refine ⟨⟨E_35, A_35, D_35, trivial⟩, ?_⟩
          refine h_take 15 (.pointer (some ⟨B5, 369, none⟩)) rfl 53 rfl (by kernel_rfl) (by kernel_rfl) (by kernel_rfl) (by kernel_rfl) (fun _ _ _ h => h) (fun w' _ => run_op_arr _ _ _ rfl 4 24 32 (by kernel_rfl) (by kernel_rfl) B5 369 rfl .i64 _ rfl 0 rfl (by decide) 369 rfl w') ⟨E_35, A_35, D_35, trivial⟩ ?_
          simp only [Act.put, List.setIfInBounds_toArray, List.set_cons_zero, List.set_cons_succ]
          refine h_one (i := 16) (by kernel_rfl) (o_skip rfl rfl (by kernel_rfl) (run_op_store _ _ _ rfl B5 (369) rfl (u8s d) rfl _ _ B5_35 (by rw [h_len KD.out, mcs_len K.out]; omega) (u8s_one _) (szH KD.out)) ?_)
          have rq := row_setRow B5_35 (lay (mcs m) (369) (u8s d))
          have oq := Only.setRow B5 y34 (lay (mcs m) (369) (u8s d)).toArray
          generalize y34.setRow B5 (lay (mcs m) (369) (u8s d)).toArray = y36 at rq oq ⊢
          have X_37 : Row y36 X 42 (mcs m) := X_35.only oq neXB5
          have E_37 : Row y36 E 24 (u8s l) := E_35.only oq neEB5
          have A_37 : Row y36 A 38 (acs a) := A_35.only oq neAB5
          have D_37 : Row y36 D 24 (u8s d) := D_35.only oq neDB5
          have B1_37 : Row y36 B1 42 (mcs m1) := B1_35.only oq x15
          have B2_37 : Row y36 B2 42 (mcs m2) := B2_35.only oq x25
          have B3_37 : Row y36 B3 42 (mcs m3) := B3_35.only oq x35
          have B4_37 : Row y36 B4 42 (mcs m4) := B4_35.only oq x45
          have B5_37 : Row y36 B5 42 (mcs m5) := rq.congr HSET5.out
          have bel_37 : Below w.heap.size w y36 := below_only bel_35 oq geB5 bel_35.size
          clear X_35 E_35 A_35 D_35 B1_35 B2_35 B3_35 B4_35 B5_35 bel_35 oq
          clear rq
          refine ⟨⟨E_37, A_37, D_37, trivial⟩, ?_⟩
          refine wpAnyH_done (by kernel_rfl) ?_ _
          have ck := X_37.cell CK.out
          go_wp2_with (first
            | ((with_reducible refine at_slot 57 ?_); (refine arm_load (o := ⟨some 57, _, _, _, _, _⟩) rfl _ _ rfl B1 0 rfl (mcs m1) ((Has.refl _).range B1_37) (sz_msg K1.out) ?_); try simp only [Act.put, List.setIfInBounds_toArray, List.set_cons_zero, List.set_cons_succ]))
          clear ck
          refine (CR1.out _).mono ?_
          rintro e y38 ⟨rfl, hB⟩
          have X_39 : Row y38 X 42 (mcs m) := X_37.old hB
          have E_39 : Row y38 E 24 (u8s l) := E_37.old hB
          have A_39 : Row y38 A 38 (acs a) := A_37.old hB
          have D_39 : Row y38 D 24 (u8s d) := D_37.old hB
          have B1_39 : Row y38 B1 42 (mcs m1) := B1_37.old hB
          have B2_39 : Row y38 B2 42 (mcs m2) := B2_37.old hB
          have B3_39 : Row y38 B3 42 (mcs m3) := B3_37.old hB
          have B4_39 : Row y38 B4 42 (mcs m4) := B4_37.old hB
          have B5_39 : Row y38 B5 42 (mcs m5) := B5_37.old hB
          have bel_39 : Below w.heap.size w y38 := below_step bel_37 bel_37.size hB
          clear X_37 E_37 A_37 D_37 B1_37 B2_37 B3_37 B4_37 B5_37 bel_37 hB
          have ck := X_39.cell CK.out
          go_wp2_with (first
            | ((with_reducible refine at_slot 60 ?_); (refine arm_want (.bool b1) 60 rfl (by kernel_rfl) (cmp_eql _ _ .u32 (by kernel_rfl) _ _ rfl .u32 (v : Int) (0) rfl rfl b1 HI1.out _) ?_); try simp only [Act.put, List.setIfInBounds_toArray, List.set_cons_zero, List.set_cons_succ])
            | ((with_reducible refine at_slot 61 ?_); (refine arm_want (.bool true) 61 rfl (by kernel_rfl) (run_op_eqlBB _ _ _ rfl b1 b1 rfl rfl true HEB1.out _) ?_); try simp only [Act.put, List.setIfInBounds_toArray, List.set_cons_zero, List.set_cons_succ]))
          clear ck
          refine wp_region_held (S := fun w' => Row w' B2 42 (mcs m2) ∧ Row w' E 24 (u8s l) ∧ True) (by kernel_rfl) ?_
          change wpAnyH _ _ _ _ _ _ _ _ y38.drew
          have hd40 : Below y38.heap.size y38 y38.drew := (Below.refl _ _).drew
          have X_41 : Row y38.drew X 42 (mcs m) := X_39.old hd40
          have E_41 : Row y38.drew E 24 (u8s l) := E_39.old hd40
          have A_41 : Row y38.drew A 38 (acs a) := A_39.old hd40
          have D_41 : Row y38.drew D 24 (u8s d) := D_39.old hd40
          have B1_41 : Row y38.drew B1 42 (mcs m1) := B1_39.old hd40
          have B2_41 : Row y38.drew B2 42 (mcs m2) := B2_39.old hd40
          have B3_41 : Row y38.drew B3 42 (mcs m3) := B3_39.old hd40
          have B4_41 : Row y38.drew B4 42 (mcs m4) := B4_39.old hd40
          have B5_41 : Row y38.drew B5 42 (mcs m5) := B5_39.old hd40
          have bel_41 : Below w.heap.size w y38.drew := below_step bel_39 bel_39.size hd40
          clear X_39 E_39 A_39 D_39 B1_39 B2_39 B3_39 B4_39 B5_39 bel_39 hd40
          generalize y38.drew = yz40 at X_41 E_41 A_41 D_41 B1_41 B2_41 B3_41 B4_41 B5_41 bel_41 ⊢
          refine h_take 0 (.bool true) rfl 65 rfl (by kernel_rfl) (by kernel_rfl) (by kernel_rfl) (by kernel_rfl) (fun _ _ _ h => h) (fun w' _ => by kernel_rfl) ⟨B2_41, E_41, trivial⟩ ?_
          simp only [Act.put, List.setIfInBounds_toArray, List.set_cons_zero, List.set_cons_succ]
          refine h_take 1 (.bool true) rfl 66 rfl (by kernel_rfl) (by kernel_rfl) (by kernel_rfl) (by kernel_rfl) (fun _ _ _ h => h) (fun w' _ => by kernel_rfl) ⟨B2_41, E_41, trivial⟩ ?_
          simp only [Act.put, List.setIfInBounds_toArray, List.set_cons_zero, List.set_cons_succ]
          refine h_take 2 (.agg (mcs m2).toArray) rfl 67 rfl (by kernel_rfl) (by kernel_rfl) (by kernel_rfl) (by kernel_rfl) (fun _ _ _ h => h) (fun w' hw => run_op_load _ _ rfl B2 (0) rfl (mcs m2) (((Has.refl _)).range hw.1) ((sz_msg K2.out))) ⟨B2_41, E_41, trivial⟩ ?_
          simp only [Act.put, List.setIfInBounds_toArray, List.set_cons_zero, List.set_cons_succ]
          refine h_take 4 (.agg (u8s l).toArray) rfl 69 rfl (by kernel_rfl) (by kernel_rfl) (by kernel_rfl) (by kernel_rfl) (fun _ _ _ h => h) (fun w' hw => run_op_load _ _ rfl E (0) rfl (u8s l) (((Has.refl _)).range hw.2.1) ((szH KL.out))) ⟨B2_41, E_41, trivial⟩ ?_
          simp only [Act.put, List.setIfInBounds_toArray, List.set_cons_zero, List.set_cons_succ]
          refine h_take 5 (.agg (u8s zh).toArray) rfl 70 rfl (by kernel_rfl) (by kernel_rfl) (by kernel_rfl) (by kernel_rfl) (fun _ _ _ h => h) (fun w' _ => run_op_build _ _ rfl (u8s zh) (by simp only [List.map_toArray, List.map_nil]; exact zh_built) w') ⟨B2_41, E_41, trivial⟩ ?_
          simp only [Act.put, List.setIfInBounds_toArray, List.set_cons_zero, List.set_cons_succ]
          refine h_take 6 (.bool b2) rfl 71 rfl (by kernel_rfl) (by kernel_rfl) (by kernel_rfl) (by kernel_rfl) (fun _ _ _ h => h) (fun w' _ => run_op_eqlD KL.out zh_ok _ _ _ rfl rfl rfl b2 HI2.out w') ⟨B2_41, E_41, trivial⟩ ?_
          simp only [Act.put, List.setIfInBounds_toArray, List.set_cons_zero, List.set_cons_succ]
          refine h_one (i := 3) (by kernel_rfl) (o_call rfl 68 rfl (by kernel_rfl) (run_op_call 12 _ _ rfl #[.agg (mcs m2).toArray] (by simp only [List.map_toArray, List.map_cons, List.map_nil]; rfl) Try.func12 (by kernel_rfl) (by kernel_rfl) _) (CR2.out _) ?_)
          rintro e y42 ⟨rfl, hB⟩
          have X_43 : Row y42 X 42 (mcs m) := X_41.old hB
          have E_43 : Row y42 E 24 (u8s l) := E_41.old hB
          have A_43 : Row y42 A 38 (acs a) := A_41.old hB
          have D_43 : Row y42 D 24 (u8s d) := D_41.old hB
          have B1_43 : Row y42 B1 42 (mcs m1) := B1_41.old hB
          have B2_43 : Row y42 B2 42 (mcs m2) := B2_41.old hB
          have B3_43 : Row y42 B3 42 (mcs m3) := B3_41.old hB
          have B4_43 : Row y42 B4 42 (mcs m4) := B4_41.old hB
          have B5_43 : Row y42 B5 42 (mcs m5) := B5_41.old hB
          have bel_43 : Below w.heap.size w y42 := below_step bel_41 bel_41.size hB
          clear X_41 E_41 A_41 D_41 B1_41 B2_41 B3_41 B4_41 B5_41 bel_41 hB
          refine ⟨_, rfl, ⟨B2_43, E_43, trivial⟩, ?_⟩
          simp only [Act.put, List.setIfInBounds_toArray, List.set_cons_zero, List.set_cons_succ]
          refine h_take 7 (.bool true) rfl 72 rfl (by kernel_rfl) (by kernel_rfl) (by kernel_rfl) (by kernel_rfl) (fun _ _ _ h => h) (fun w' _ => run_op_eqlBB _ _ _ rfl b2 b2 rfl rfl true HEB2.out w') ⟨B2_43, E_43, trivial⟩ ?_
          simp only [Act.put, List.setIfInBounds_toArray, List.set_cons_zero, List.set_cons_succ]
          refine h_take 8 (.bool true) rfl 73 rfl (by kernel_rfl) (by kernel_rfl) (by kernel_rfl) (by kernel_rfl) (fun _ _ _ h => h) (fun w' _ => by kernel_rfl) ⟨B2_43, E_43, trivial⟩ ?_
          simp only [Act.put, List.setIfInBounds_toArray, List.set_cons_zero, List.set_cons_succ]
          refine h_take 9 (.bool true) rfl 18 rfl (by kernel_rfl) (by kernel_rfl) (by kernel_rfl) (by kernel_rfl) (fun _ _ _ h => h) (fun w' _ => by kernel_rfl) ⟨B2_43, E_43, trivial⟩ ?_
          simp only [Act.put, List.setIfInBounds_toArray, List.set_cons_zero, List.set_cons_succ]
          refine wpAnyH_done (by kernel_rfl) ?_ _
          have ck := X_43.cell CK.out
          go_wp2_with fail
          clear ck
          refine wp_region_held (S := fun w' => Row w' B3 42 (mcs m3) ∧ Row w' B4 42 (mcs m4) ∧ Row w' B5 42 (mcs m5) ∧ Row w' A 38 (acs a) ∧ Row w' D 24 (u8s d) ∧ True) (by kernel_rfl) ?_
          change wpAnyH _ _ _ _ _ _ _ _ y42.drew
          have hd44 : Below y42.heap.size y42 y42.drew := (Below.refl _ _).drew
          have X_45 : Row y42.drew X 42 (mcs m) := X_43.old hd44
          have E_45 : Row y42.drew E 24 (u8s l) := E_43.old hd44
          have A_45 : Row y42.drew A 38 (acs a) := A_43.old hd44
          have D_45 : Row y42.drew D 24 (u8s d) := D_43.old hd44
          have B1_45 : Row y42.drew B1 42 (mcs m1) := B1_43.old hd44
          have B2_45 : Row y42.drew B2 42 (mcs m2) := B2_43.old hd44
          have B3_45 : Row y42.drew B3 42 (mcs m3) := B3_43.old hd44
          have B4_45 : Row y42.drew B4 42 (mcs m4) := B4_43.old hd44
          have B5_45 : Row y42.drew B5 42 (mcs m5) := B5_43.old hd44
          have bel_45 : Below w.heap.size w y42.drew := below_step bel_43 bel_43.size hd44
          clear X_43 E_43 A_43 D_43 B1_43 B2_43 B3_43 B4_43 B5_43 bel_43 hd44
          generalize y42.drew = yz44 at X_45 E_45 A_45 D_45 B1_45 B2_45 B3_45 B4_45 B5_45 bel_45 ⊢
          refine h_take 0 (.bool true) rfl 77 rfl (by kernel_rfl) (by kernel_rfl) (by kernel_rfl) (by kernel_rfl) (fun _ _ _ h => h) (fun w' _ => by kernel_rfl) ⟨B3_45, B4_45, B5_45, A_45, D_45, trivial⟩ ?_
          simp only [Act.put, List.setIfInBounds_toArray, List.set_cons_zero, List.set_cons_succ]
          refine h_take 1 (.bool true) rfl 78 rfl (by kernel_rfl) (by kernel_rfl) (by kernel_rfl) (by kernel_rfl) (fun _ _ _ h => h) (fun w' _ => by kernel_rfl) ⟨B3_45, B4_45, B5_45, A_45, D_45, trivial⟩ ?_
          simp only [Act.put, List.setIfInBounds_toArray, List.set_cons_zero, List.set_cons_succ]
          refine h_take 2 (.agg (mcs m3).toArray) rfl 79 rfl (by kernel_rfl) (by kernel_rfl) (by kernel_rfl) (by kernel_rfl) (fun _ _ _ h => h) (fun w' hw => run_op_load _ _ rfl B3 (0) rfl (mcs m3) (((Has.refl _)).range hw.1) ((sz_msg K3.out))) ⟨B3_45, B4_45, B5_45, A_45, D_45, trivial⟩ ?_
          simp only [Act.put, List.setIfInBounds_toArray, List.set_cons_zero, List.set_cons_succ]
          refine h_take 4 (.int .i64 pl) rfl 81 rfl (by kernel_rfl) (by kernel_rfl) (by kernel_rfl) (by kernel_rfl) (fun _ _ _ h => h) (fun w' _ => by kernel_rfl) ⟨B3_45, B4_45, B5_45, A_45, D_45, trivial⟩ ?_
          simp only [Act.put, List.setIfInBounds_toArray, List.set_cons_zero, List.set_cons_succ]
          refine h_take 5 (.bool b3) rfl 82 rfl (by kernel_rfl) (by kernel_rfl) (by kernel_rfl) (by kernel_rfl) (fun _ _ _ h => h) (fun w' _ => cmp_eql _ _ .i64 (by kernel_rfl) _ _ rfl .i64 (pl) (0) rfl rfl b3 HI3.out w') ⟨B3_45, B4_45, B5_45, A_45, D_45, trivial⟩ ?_
          simp only [Act.put, List.setIfInBounds_toArray, List.set_cons_zero, List.set_cons_succ]
          refine h_one (i := 3) (by kernel_rfl) (o_call rfl 80 rfl (by kernel_rfl) (run_op_call 12 _ _ rfl #[.agg (mcs m3).toArray] (by simp only [List.map_toArray, List.map_cons, List.map_nil]; rfl) Try.func12 (by kernel_rfl) (by kernel_rfl) _) (CR3.out _) ?_)
          rintro e y46 ⟨rfl, hB⟩
          have X_47 : Row y46 X 42 (mcs m) := X_45.old hB
          have E_47 : Row y46 E 24 (u8s l) := E_45.old hB
          have A_47 : Row y46 A 38 (acs a) := A_45.old hB
          have D_47 : Row y46 D 24 (u8s d) := D_45.old hB
          have B1_47 : Row y46 B1 42 (mcs m1) := B1_45.old hB
          have B2_47 : Row y46 B2 42 (mcs m2) := B2_45.old hB
          have B3_47 : Row y46 B3 42 (mcs m3) := B3_45.old hB
          have B4_47 : Row y46 B4 42 (mcs m4) := B4_45.old hB
          have B5_47 : Row y46 B5 42 (mcs m5) := B5_45.old hB
          have bel_47 : Below w.heap.size w y46 := below_step bel_45 bel_45.size hB
          clear X_45 E_45 A_45 D_45 B1_45 B2_45 B3_45 B4_45 B5_45 bel_45 hB
          refine ⟨_, rfl, ⟨B3_47, B4_47, B5_47, A_47, D_47, trivial⟩, ?_⟩
          simp only [Act.put, List.setIfInBounds_toArray, List.set_cons_zero, List.set_cons_succ]
          refine h_take 6 (.bool true) rfl 83 rfl (by kernel_rfl) (by kernel_rfl) (by kernel_rfl) (by kernel_rfl) (fun _ _ _ h => h) (fun w' _ => run_op_eqlBB _ _ _ rfl b3 b3 rfl rfl true HEB3.out w') ⟨B3_47, B4_47, B5_47, A_47, D_47, trivial⟩ ?_
          simp only [Act.put, List.setIfInBounds_toArray, List.set_cons_zero, List.set_cons_succ]
          refine h_take 7 (.bool true) rfl 84 rfl (by kernel_rfl) (by kernel_rfl) (by kernel_rfl) (by kernel_rfl) (fun _ _ _ h => h) (fun w' _ => by kernel_rfl) ⟨B3_47, B4_47, B5_47, A_47, D_47, trivial⟩ ?_
          simp only [Act.put, List.setIfInBounds_toArray, List.set_cons_zero, List.set_cons_succ]
          refine h_take 8 (.bool true) rfl 85 rfl (by kernel_rfl) (by kernel_rfl) (by kernel_rfl) (by kernel_rfl) (fun _ _ _ h => h) (fun w' _ => by kernel_rfl) ⟨B3_47, B4_47, B5_47, A_47, D_47, trivial⟩ ?_
          simp only [Act.put, List.setIfInBounds_toArray, List.set_cons_zero, List.set_cons_succ]
          refine h_take 9 (.agg (mcs m4).toArray) rfl 86 rfl (by kernel_rfl) (by kernel_rfl) (by kernel_rfl) (by kernel_rfl) (fun _ _ _ h => h) (fun w' hw => run_op_load _ _ rfl B4 (0) rfl (mcs m4) (((Has.refl _)).range hw.2.1) ((sz_msg K4.out))) ⟨B3_47, B4_47, B5_47, A_47, D_47, trivial⟩ ?_
          simp only [Act.put, List.setIfInBounds_toArray, List.set_cons_zero, List.set_cons_succ]
          refine h_take 11 (.agg (acs a).toArray) rfl 88 rfl (by kernel_rfl) (by kernel_rfl) (by kernel_rfl) (by kernel_rfl) (fun _ _ _ h => h) (fun w' hw => run_op_load _ _ rfl A (0) rfl (acs a) (((Has.refl _)).range hw.2.2.2.1) ((sz_acc a))) ⟨B3_47, B4_47, B5_47, A_47, D_47, trivial⟩ ?_
          simp only [Act.put, List.setIfInBounds_toArray, List.set_cons_zero, List.set_cons_succ]
          refine h_take 12 (.agg (acs za).toArray) rfl 89 rfl (by kernel_rfl) (by kernel_rfl) (by kernel_rfl) (by kernel_rfl) (fun _ _ _ h => h) (fun w' _ => run_op_build _ _ rfl (acs za) (by simp only [List.map_toArray, List.map_nil]; exact built_za) w') ⟨B3_47, B4_47, B5_47, A_47, D_47, trivial⟩ ?_
          simp only [Act.put, List.setIfInBounds_toArray, List.set_cons_zero, List.set_cons_succ]
          refine h_take 13 (.bool b4) rfl 90 rfl (by kernel_rfl) (by kernel_rfl) (by kernel_rfl) (by kernel_rfl) (fun _ _ _ h => h) (fun w' _ => run_op_eqlA _ _ _ rfl a za rfl rfl b4 HI4.out w') ⟨B3_47, B4_47, B5_47, A_47, D_47, trivial⟩ ?_
          simp only [Act.put, List.setIfInBounds_toArray, List.set_cons_zero, List.set_cons_succ]
          refine h_one (i := 10) (by kernel_rfl) (o_call rfl 87 rfl (by kernel_rfl) (run_op_call 12 _ _ rfl #[.agg (mcs m4).toArray] (by simp only [List.map_toArray, List.map_cons, List.map_nil]; rfl) Try.func12 (by kernel_rfl) (by kernel_rfl) _) (CR4.out _) ?_)
          rintro e y48 ⟨rfl, hB⟩
          have X_49 : Row y48 X 42 (mcs m) := X_47.old hB
          have E_49 : Row y48 E 24 (u8s l) := E_47.old hB
          have A_49 : Row y48 A 38 (acs a) := A_47.old hB
          have D_49 : Row y48 D 24 (u8s d) := D_47.old hB
          have B1_49 : Row y48 B1 42 (mcs m1) := B1_47.old hB
          have B2_49 : Row y48 B2 42 (mcs m2) := B2_47.old hB
          have B3_49 : Row y48 B3 42 (mcs m3) := B3_47.old hB
          have B4_49 : Row y48 B4 42 (mcs m4) := B4_47.old hB
          have B5_49 : Row y48 B5 42 (mcs m5) := B5_47.old hB
          have bel_49 : Below w.heap.size w y48 := below_step bel_47 bel_47.size hB
          clear X_47 E_47 A_47 D_47 B1_47 B2_47 B3_47 B4_47 B5_47 bel_47 hB
          refine ⟨_, rfl, ⟨B3_49, B4_49, B5_49, A_49, D_49, trivial⟩, ?_⟩
          simp only [Act.put, List.setIfInBounds_toArray, List.set_cons_zero, List.set_cons_succ]
          refine h_take 14 (.bool true) rfl 91 rfl (by kernel_rfl) (by kernel_rfl) (by kernel_rfl) (by kernel_rfl) (fun _ _ _ h => h) (fun w' _ => run_op_eqlBB _ _ _ rfl b4 b4 rfl rfl true HEB4.out w') ⟨B3_49, B4_49, B5_49, A_49, D_49, trivial⟩ ?_
          simp only [Act.put, List.setIfInBounds_toArray, List.set_cons_zero, List.set_cons_succ]
          refine h_take 15 (.bool true) rfl 92 rfl (by kernel_rfl) (by kernel_rfl) (by kernel_rfl) (by kernel_rfl) (fun _ _ _ h => h) (fun w' _ => by kernel_rfl) ⟨B3_49, B4_49, B5_49, A_49, D_49, trivial⟩ ?_
          simp only [Act.put, List.setIfInBounds_toArray, List.set_cons_zero, List.set_cons_succ]
          refine h_take 16 (.bool true) rfl 93 rfl (by kernel_rfl) (by kernel_rfl) (by kernel_rfl) (by kernel_rfl) (fun _ _ _ h => h) (fun w' _ => by kernel_rfl) ⟨B3_49, B4_49, B5_49, A_49, D_49, trivial⟩ ?_
          simp only [Act.put, List.setIfInBounds_toArray, List.set_cons_zero, List.set_cons_succ]
          refine h_take 17 (.agg (mcs m5).toArray) rfl 94 rfl (by kernel_rfl) (by kernel_rfl) (by kernel_rfl) (by kernel_rfl) (fun _ _ _ h => h) (fun w' hw => run_op_load _ _ rfl B5 (0) rfl (mcs m5) (((Has.refl _)).range hw.2.2.1) ((sz_msg K5.out))) ⟨B3_49, B4_49, B5_49, A_49, D_49, trivial⟩ ?_
          simp only [Act.put, List.setIfInBounds_toArray, List.set_cons_zero, List.set_cons_succ]
          refine h_take 19 (.agg (u8s d).toArray) rfl 96 rfl (by kernel_rfl) (by kernel_rfl) (by kernel_rfl) (by kernel_rfl) (fun _ _ _ h => h) (fun w' hw => run_op_load _ _ rfl D (0) rfl (u8s d) (((Has.refl _)).range hw.2.2.2.2.1) ((szH KD.out))) ⟨B3_49, B4_49, B5_49, A_49, D_49, trivial⟩ ?_
          simp only [Act.put, List.setIfInBounds_toArray, List.set_cons_zero, List.set_cons_succ]
          refine h_take 20 (.agg (u8s zh).toArray) rfl 97 rfl (by kernel_rfl) (by kernel_rfl) (by kernel_rfl) (by kernel_rfl) (fun _ _ _ h => h) (fun w' _ => run_op_build _ _ rfl (u8s zh) (by simp only [List.map_toArray, List.map_nil]; exact zh_built) w') ⟨B3_49, B4_49, B5_49, A_49, D_49, trivial⟩ ?_
          simp only [Act.put, List.setIfInBounds_toArray, List.set_cons_zero, List.set_cons_succ]
          refine h_take 21 (.bool b5) rfl 98 rfl (by kernel_rfl) (by kernel_rfl) (by kernel_rfl) (by kernel_rfl) (fun _ _ _ h => h) (fun w' _ => run_op_eqlD KD.out zh_ok _ _ _ rfl rfl rfl b5 HI5.out w') ⟨B3_49, B4_49, B5_49, A_49, D_49, trivial⟩ ?_
          simp only [Act.put, List.setIfInBounds_toArray, List.set_cons_zero, List.set_cons_succ]
          refine h_one (i := 18) (by kernel_rfl) (o_call rfl 95 rfl (by kernel_rfl) (run_op_call 12 _ _ rfl #[.agg (mcs m5).toArray] (by simp only [List.map_toArray, List.map_cons, List.map_nil]; rfl) Try.func12 (by kernel_rfl) (by kernel_rfl) _) (CR5.out _) ?_)
          rintro e y50 ⟨rfl, hB⟩
          have X_51 : Row y50 X 42 (mcs m) := X_49.old hB
          have E_51 : Row y50 E 24 (u8s l) := E_49.old hB
          have A_51 : Row y50 A 38 (acs a) := A_49.old hB
          have D_51 : Row y50 D 24 (u8s d) := D_49.old hB
          have B1_51 : Row y50 B1 42 (mcs m1) := B1_49.old hB
          have B2_51 : Row y50 B2 42 (mcs m2) := B2_49.old hB
          have B3_51 : Row y50 B3 42 (mcs m3) := B3_49.old hB
          have B4_51 : Row y50 B4 42 (mcs m4) := B4_49.old hB
          have B5_51 : Row y50 B5 42 (mcs m5) := B5_49.old hB
          have bel_51 : Below w.heap.size w y50 := below_step bel_49 bel_49.size hB
          clear X_49 E_49 A_49 D_49 B1_49 B2_49 B3_49 B4_49 B5_49 bel_49 hB
          refine ⟨_, rfl, ⟨B3_51, B4_51, B5_51, A_51, D_51, trivial⟩, ?_⟩
          simp only [Act.put, List.setIfInBounds_toArray, List.set_cons_zero, List.set_cons_succ]
          refine h_take 22 (.bool true) rfl 99 rfl (by kernel_rfl) (by kernel_rfl) (by kernel_rfl) (by kernel_rfl) (fun _ _ _ h => h) (fun w' _ => run_op_eqlBB _ _ _ rfl b5 b5 rfl rfl true HEB5.out w') ⟨B3_51, B4_51, B5_51, A_51, D_51, trivial⟩ ?_
          simp only [Act.put, List.setIfInBounds_toArray, List.set_cons_zero, List.set_cons_succ]
          refine h_take 23 (.bool true) rfl 100 rfl (by kernel_rfl) (by kernel_rfl) (by kernel_rfl) (by kernel_rfl) (fun _ _ _ h => h) (fun w' _ => by kernel_rfl) ⟨B3_51, B4_51, B5_51, A_51, D_51, trivial⟩ ?_
          simp only [Act.put, List.setIfInBounds_toArray, List.set_cons_zero, List.set_cons_succ]
          refine h_take 24 (.bool true) rfl 18 rfl (by kernel_rfl) (by kernel_rfl) (by kernel_rfl) (by kernel_rfl) (fun _ _ _ h => h) (fun w' _ => by kernel_rfl) ⟨B3_51, B4_51, B5_51, A_51, D_51, trivial⟩ ?_
          simp only [Act.put, List.setIfInBounds_toArray, List.set_cons_zero, List.set_cons_succ]
          refine wpAnyH_done (by kernel_rfl) ?_ _
          go_wp2_with fail
          go_ret
          exact ⟨rfl, bel_51⟩
        · skip
          have n1 : ((q : Int) != 1) = true := by simp; omega
          have n2 : ((q : Int) != 2) = true := by simp; omega
          have n4 : ((q : Int) != 4) = false := by simp; omega
          obtain ⟨b1, hb1⟩ : ∃ b, b = ((v : Int) == 0) := ⟨_, rfl⟩
          have HB1 : Hid (mrB m1 = b1) := Lib.hid (mrB_eq ((HO1b.out (by omega)).trans (by rw [hb1]; simp)))
          have CR1 : Hid (∀ w0, Calls Try.prog 12 #[.agg (mcs m1).toArray] w0 fun e w' => e = .returned (.bool b1) ∧ Below w0.heap.size w0 w') := Lib.hid fun w0 => (mright_any m1 w0 K1.out).mono fun e w' h => ⟨by rw [h.1, HB1.out], h.2⟩
          have HI1 : Hid (decide ((v : Int) = 0) = b1) := Lib.hid (by rw [hb1, Bool.eq_iff_iff]; simp)
          clear hb1
          have HEB1 : Hid ((b1 == b1) = true) := Lib.hid (by simp)
          obtain ⟨b2, hb2⟩ : ∃ b, b = decide (l = zh) := ⟨_, rfl⟩
          have HB2 : Hid (mrB m2 = b2) := Lib.hid (mrB_eq ((HO2b.out (by omega)).trans (by rw [hb2]; simp)))
          have CR2 : Hid (∀ w0, Calls Try.prog 12 #[.agg (mcs m2).toArray] w0 fun e w' => e = .returned (.bool b2) ∧ Below w0.heap.size w0 w') := Lib.hid fun w0 => (mright_any m2 w0 K2.out).mono fun e w' h => ⟨by rw [h.1, HB2.out], h.2⟩
          have HI2 : Hid (b2 = true ↔ l = zh) := Lib.hid (by rw [hb2]; simp)
          have HEB2 : Hid ((b2 == b2) = true) := Lib.hid (by simp)
          clear hb2
          clear hk hq4 HO1b HO2b HO3b HO4b HO5b
          go_enter Try.func5, Try.ntmps5
          go_wp2_with (first
            | ((with_reducible refine at_slot 6 ?_); (refine arm_box (o := ⟨some 6, _, _, _, _, _⟩) rfl _ _ rfl (mcs m) rfl ?_); intro X v1 Xe hv1 nv1; try simp only [Act.put, List.setIfInBounds_toArray, List.set_cons_zero, List.set_cons_succ])
            | ((with_reducible refine at_slot 8 ?_); (refine arm_box (o := ⟨some 8, _, _, _, _, _⟩) rfl _ _ rfl (u8s l) rfl ?_); intro E v2 Ee hv2 nv2; try simp only [Act.put, List.setIfInBounds_toArray, List.set_cons_zero, List.set_cons_succ])
            | ((with_reducible refine at_slot 10 ?_); (refine arm_box (o := ⟨some 10, _, _, _, _, _⟩) rfl _ _ rfl (acs a) rfl ?_); intro A v3 Ae hv3 nv3; try simp only [Act.put, List.setIfInBounds_toArray, List.set_cons_zero, List.set_cons_succ])
            | ((with_reducible refine at_slot 11 ?_); (refine arm_box (o := ⟨some 11, _, _, _, _, _⟩) rfl _ _ rfl (u8s d) rfl ?_); intro D v4 De hv4 nv4; try simp only [Act.put, List.setIfInBounds_toArray, List.set_cons_zero, List.set_cons_succ]))
          have hbv1 := nv1.below
          have rrv1 : Row v1 X 42 (mcs m) := hv1
          have hbv2 := nv2.below
          have rrv2 : Row v2 E 24 (u8s l) := hv2
          have hbv3 := nv3.below
          have rrv3 : Row v3 A 38 (acs a) := hv3
          have hbv4 := nv4.below
          have rrv4 : Row v4 D 24 (u8s d) := hv4
          have geX : w.heap.size ≤ X := by have := Xe.out; omega
          have lXx : w.heap.size ≤ X := by have := Xe.out; omega
          clear hv1 nv1 Xe
          have bel_5 : Below w.heap.size w v1 := hbv1
          clear hbv1
          have geE : w.heap.size ≤ E := by have := Ee.out; have := bel_5.size; omega
          have ltXE : X < E := by have := Ee.out; have := rrv1.lt; omega
          have lEx : v1.heap.size ≤ E := by have := Ee.out; omega
          clear hv2 nv2 Ee
          have X_6 : Row v2 X 42 (mcs m) := rrv1.old hbv2
          have bel_6 : Below w.heap.size w v2 := below_step bel_5 bel_5.size hbv2
          clear rrv1 bel_5 hbv2
          have geA : w.heap.size ≤ A := by have := Ae.out; have := bel_6.size; omega
          have ltEA : E < A := by have := Ae.out; have := rrv2.lt; omega
          have lAx : v2.heap.size ≤ A := by have := Ae.out; omega
          clear hv3 nv3 Ae
          have X_7 : Row v3 X 42 (mcs m) := X_6.old hbv3
          have E_7 : Row v3 E 24 (u8s l) := rrv2.old hbv3
          have bel_7 : Below w.heap.size w v3 := below_step bel_6 bel_6.size hbv3
          clear X_6 rrv2 bel_6 hbv3
          have geD : w.heap.size ≤ D := by have := De.out; have := bel_7.size; omega
          have ltAD : A < D := by have := De.out; have := rrv3.lt; omega
          have lDx : v3.heap.size ≤ D := by have := De.out; omega
          clear hv4 nv4 De
          have X_8 : Row v4 X 42 (mcs m) := X_7.old hbv4
          have E_8 : Row v4 E 24 (u8s l) := E_7.old hbv4
          have A_8 : Row v4 A 38 (acs a) := rrv3.old hbv4
          have bel_8 : Below w.heap.size w v4 := below_step bel_7 bel_7.size hbv4
          clear X_7 E_7 rrv3 bel_7 hbv4
          refine (CA.out _).mono ?_
          rintro e y9 ⟨rfl, hB⟩
          have X_10 : Row y9 X 42 (mcs m) := X_8.old hB
          have E_10 : Row y9 E 24 (u8s l) := E_8.old hB
          have A_10 : Row y9 A 38 (acs a) := A_8.old hB
          have D_10 : Row y9 D 24 (u8s d) := rrv4.old hB
          have bel_10 : Below w.heap.size w y9 := below_step bel_8 bel_8.size hB
          clear X_8 E_8 A_8 rrv4 bel_8 hB
          have cn := X_10.cell CN.out; have cna := A_10.cell CNA.out
          go_wp2_with (first
            | ((with_reducible refine at_slot 33 ?_); (refine arm_want (.agg (mcs m).toArray) 33 rfl (by kernel_rfl) (run_op_load _ _ rfl X 0 rfl (mcs m) ((Has.refl _).range X_10) SX.out) ?_); try simp only [Act.put, List.setIfInBounds_toArray, List.set_cons_zero, List.set_cons_succ]))
          refine (CR.out _).mono ?_
          rintro e y11 ⟨rfl, hB⟩
          have X_12 : Row y11 X 42 (mcs m) := X_10.old hB
          have E_12 : Row y11 E 24 (u8s l) := E_10.old hB
          have A_12 : Row y11 A 38 (acs a) := A_10.old hB
          have D_12 : Row y11 D 24 (u8s d) := D_10.old hB
          have bel_12 : Below w.heap.size w y11 := below_step bel_10 bel_10.size hB
          clear X_10 E_10 A_10 D_10 bel_10 hB
          clear cn cna
          go_wp2_with fail
          refine wp_region_held (S := fun w' => Row w' X 42 (mcs m) ∧ True) (by kernel_rfl) ?_
          change wpAnyH _ _ _ _ _ _ _ _ y11.drew
          have hd13 : Below y11.heap.size y11 y11.drew := (Below.refl _ _).drew
          have X_14 : Row y11.drew X 42 (mcs m) := X_12.old hd13
          have E_14 : Row y11.drew E 24 (u8s l) := E_12.old hd13
          have A_14 : Row y11.drew A 38 (acs a) := A_12.old hd13
          have D_14 : Row y11.drew D 24 (u8s d) := D_12.old hd13
          have bel_14 : Below w.heap.size w y11.drew := below_step bel_12 bel_12.size hd13
          clear X_12 E_12 A_12 D_12 bel_12 hd13
          generalize y11.drew = yz13 at X_14 E_14 A_14 D_14 bel_14 ⊢
          refine h_take 0 (.agg (mcs m).toArray) rfl 37 rfl (by kernel_rfl) (by kernel_rfl) (by kernel_rfl) (by kernel_rfl) (fun _ _ _ h => h) (fun w' hw => run_op_load _ _ rfl X (0) rfl (mcs m) (((Has.refl _)).range hw.1) (SX.out)) ⟨X_14, trivial⟩ ?_
          simp only [Act.put, List.setIfInBounds_toArray, List.set_cons_zero, List.set_cons_succ]
          refine h_take 1 (.agg (mcs m).toArray) rfl 38 rfl (by kernel_rfl) (by kernel_rfl) (by kernel_rfl) (by kernel_rfl) (fun _ _ _ h => h) (fun w' hw => run_op_load _ _ rfl X (0) rfl (mcs m) (((Has.refl _)).range hw.1) (SX.out)) ⟨X_14, trivial⟩ ?_
          simp only [Act.put, List.setIfInBounds_toArray, List.set_cons_zero, List.set_cons_succ]
          refine h_take 2 (.agg (mcs m).toArray) rfl 39 rfl (by kernel_rfl) (by kernel_rfl) (by kernel_rfl) (by kernel_rfl) (fun _ _ _ h => h) (fun w' hw => run_op_load _ _ rfl X (0) rfl (mcs m) (((Has.refl _)).range hw.1) (SX.out)) ⟨X_14, trivial⟩ ?_
          simp only [Act.put, List.setIfInBounds_toArray, List.set_cons_zero, List.set_cons_succ]
          refine h_take 3 (.agg (mcs m).toArray) rfl 40 rfl (by kernel_rfl) (by kernel_rfl) (by kernel_rfl) (by kernel_rfl) (fun _ _ _ h => h) (fun w' hw => run_op_load _ _ rfl X (0) rfl (mcs m) (((Has.refl _)).range hw.1) (SX.out)) ⟨X_14, trivial⟩ ?_
          simp only [Act.put, List.setIfInBounds_toArray, List.set_cons_zero, List.set_cons_succ]
          refine h_take 4 (.agg (mcs m).toArray) rfl 41 rfl (by kernel_rfl) (by kernel_rfl) (by kernel_rfl) (by kernel_rfl) (fun _ _ _ h => h) (fun w' hw => run_op_load _ _ rfl X (0) rfl (mcs m) (((Has.refl _)).range hw.1) (SX.out)) ⟨X_14, trivial⟩ ?_
          simp only [Act.put, List.setIfInBounds_toArray, List.set_cons_zero, List.set_cons_succ]
          have lX := X_14.lt; have lE := E_14.lt; have lA := A_14.lt; have lD := D_14.lt
          refine h_allocsN (S := _) 42 (mcs zm) z_msg 5 [(5, 13), (6, 14), (7, 15), (8, 16), (9, 17)] _ _ _ _ rfl (by kernel_rfl) (fun p hp => by
            simp only [List.mem_cons, List.not_mem_nil, or_false] at hp
            rcases hp with rfl | rfl | rfl | rfl | rfl <;> exact ⟨_, rfl, rfl, rfl, rfl⟩) (by decide) (by decide) (fun w' hb => ⟨X_14.old hb, trivial⟩) ?_
          intro bs y50 hbl hbn hbr hB50
          obtain ⟨B1, B2, B3, B4, B5, rfl⟩ : ∃ B1 B2 B3 B4 B5, bs = [B1, B2, B3, B4, B5] := by
            match bs, hbl with
            | [B1, B2, B3, B4, B5], _ => exact ⟨B1, B2, B3, B4, B5, rfl⟩
          simp only [List.nodup_cons, List.mem_cons, List.not_mem_nil, or_false, not_or] at hbn
          obtain ⟨⟨x12, x13, x14, x15⟩, ⟨x23, x24, x25⟩, ⟨x34, x35⟩, x45, _⟩ := hbn
          obtain ⟨g1, r1⟩ := hbr B1 (by simp)
          obtain ⟨g2, r2⟩ := hbr B2 (by simp)
          obtain ⟨g3, r3⟩ := hbr B3 (by simp)
          obtain ⟨g4, r4⟩ := hbr B4 (by simp)
          obtain ⟨g5, r5⟩ := hbr B5 (by simp)
          clear hbr hbl
          have zw := bel_14.size
          have geB1 : w.heap.size ≤ B1 := Nat.le_trans zw g1
          have neXB1 : X ≠ B1 := Nat.ne_of_lt (Nat.lt_of_lt_of_le lX g1)
          have neEB1 : E ≠ B1 := Nat.ne_of_lt (Nat.lt_of_lt_of_le lE g1)
          have neAB1 : A ≠ B1 := Nat.ne_of_lt (Nat.lt_of_lt_of_le lA g1)
          have neDB1 : D ≠ B1 := Nat.ne_of_lt (Nat.lt_of_lt_of_le lD g1)
          have geB2 : w.heap.size ≤ B2 := Nat.le_trans zw g2
          have neXB2 : X ≠ B2 := Nat.ne_of_lt (Nat.lt_of_lt_of_le lX g2)
          have neEB2 : E ≠ B2 := Nat.ne_of_lt (Nat.lt_of_lt_of_le lE g2)
          have neAB2 : A ≠ B2 := Nat.ne_of_lt (Nat.lt_of_lt_of_le lA g2)
          have neDB2 : D ≠ B2 := Nat.ne_of_lt (Nat.lt_of_lt_of_le lD g2)
          have geB3 : w.heap.size ≤ B3 := Nat.le_trans zw g3
          have neXB3 : X ≠ B3 := Nat.ne_of_lt (Nat.lt_of_lt_of_le lX g3)
          have neEB3 : E ≠ B3 := Nat.ne_of_lt (Nat.lt_of_lt_of_le lE g3)
          have neAB3 : A ≠ B3 := Nat.ne_of_lt (Nat.lt_of_lt_of_le lA g3)
          have neDB3 : D ≠ B3 := Nat.ne_of_lt (Nat.lt_of_lt_of_le lD g3)
          have geB4 : w.heap.size ≤ B4 := Nat.le_trans zw g4
          have neXB4 : X ≠ B4 := Nat.ne_of_lt (Nat.lt_of_lt_of_le lX g4)
          have neEB4 : E ≠ B4 := Nat.ne_of_lt (Nat.lt_of_lt_of_le lE g4)
          have neAB4 : A ≠ B4 := Nat.ne_of_lt (Nat.lt_of_lt_of_le lA g4)
          have neDB4 : D ≠ B4 := Nat.ne_of_lt (Nat.lt_of_lt_of_le lD g4)
          have geB5 : w.heap.size ≤ B5 := Nat.le_trans zw g5
          have neXB5 : X ≠ B5 := Nat.ne_of_lt (Nat.lt_of_lt_of_le lX g5)
          have neEB5 : E ≠ B5 := Nat.ne_of_lt (Nat.lt_of_lt_of_le lE g5)
          have neAB5 : A ≠ B5 := Nat.ne_of_lt (Nat.lt_of_lt_of_le lA g5)
          have neDB5 : D ≠ B5 := Nat.ne_of_lt (Nat.lt_of_lt_of_le lD g5)
          clear zw lX lE lA lD g1 g2 g3 g4 g5
          have X_15 : Row y50 X 42 (mcs m) := X_14.old hB50
          have E_15 : Row y50 E 24 (u8s l) := E_14.old hB50
          have A_15 : Row y50 A 38 (acs a) := A_14.old hB50
          have D_15 : Row y50 D 24 (u8s d) := D_14.old hB50
          have bel_15 : Below w.heap.size w y50 := below_step bel_14 bel_14.size hB50
          clear X_14 E_14 A_14 D_14 bel_14 hB50
          simp only [List.foldl_cons, List.foldl_nil, List.zip_cons_cons, List.zip_nil_right, setA, putA]
          try simp only [Act.put, List.setIfInBounds_toArray, List.set_cons_zero, List.set_cons_succ]
          refine h_one (i := 10) (by kernel_rfl) (o_skip rfl rfl (by kernel_rfl) (run_op_store _ _ _ rfl B1 (0) rfl (mcs m) rfl _ _ r1 (fitM K.out) (mcs_one _) SX.out) ?_)
          have rq := row_setRow r1 (lay (mcs zm) (0) (mcs m))
          have oq := Only.setRow B1 y50 (lay (mcs zm) (0) (mcs m)).toArray
          generalize y50.setRow B1 (lay (mcs zm) (0) (mcs m)).toArray = y16 at rq oq ⊢
          have X_17 : Row y16 X 42 (mcs m) := X_15.only oq neXB1
          have E_17 : Row y16 E 24 (u8s l) := E_15.only oq neEB1
          have A_17 : Row y16 A 38 (acs a) := A_15.only oq neAB1
          have D_17 : Row y16 D 24 (u8s d) := D_15.only oq neDB1
          have B1_17 : Row y16 B1 42 (mcs m) := rq.congr (allM K.out)
          have B2_17 : Row y16 B2 42 (mcs zm) := r2.only oq (Ne.symm x12)
          have B3_17 : Row y16 B3 42 (mcs zm) := r3.only oq (Ne.symm x13)
          have B4_17 : Row y16 B4 42 (mcs zm) := r4.only oq (Ne.symm x14)
          have B5_17 : Row y16 B5 42 (mcs zm) := r5.only oq (Ne.symm x15)
          have bel_17 : Below w.heap.size w y16 := below_only bel_15 oq geB1 bel_15.size
          clear X_15 E_15 A_15 D_15 r1 r2 r3 r4 r5 bel_15 oq
          clear rq
          refine ⟨⟨X_17, trivial⟩, ?_⟩
          refine h_one (i := 11) (by kernel_rfl) (o_skip rfl rfl (by kernel_rfl) (run_op_store _ _ _ rfl B2 (0) rfl (mcs m) rfl _ _ B2_17 (fitM K.out) (mcs_one _) SX.out) ?_)
          have rq := row_setRow B2_17 (lay (mcs zm) (0) (mcs m))
          have oq := Only.setRow B2 y16 (lay (mcs zm) (0) (mcs m)).toArray
          generalize y16.setRow B2 (lay (mcs zm) (0) (mcs m)).toArray = y18 at rq oq ⊢
          have X_19 : Row y18 X 42 (mcs m) := X_17.only oq neXB2
          have E_19 : Row y18 E 24 (u8s l) := E_17.only oq neEB2
          have A_19 : Row y18 A 38 (acs a) := A_17.only oq neAB2
          have D_19 : Row y18 D 24 (u8s d) := D_17.only oq neDB2
          have B1_19 : Row y18 B1 42 (mcs m) := B1_17.only oq x12
          have B2_19 : Row y18 B2 42 (mcs m) := rq.congr (allM K.out)
          have B3_19 : Row y18 B3 42 (mcs zm) := B3_17.only oq (Ne.symm x23)
          have B4_19 : Row y18 B4 42 (mcs zm) := B4_17.only oq (Ne.symm x24)
          have B5_19 : Row y18 B5 42 (mcs zm) := B5_17.only oq (Ne.symm x25)
          have bel_19 : Below w.heap.size w y18 := below_only bel_17 oq geB2 bel_17.size
          clear X_17 E_17 A_17 D_17 B1_17 B2_17 B3_17 B4_17 B5_17 bel_17 oq
          clear rq
          refine ⟨⟨X_19, trivial⟩, ?_⟩
          refine h_one (i := 12) (by kernel_rfl) (o_skip rfl rfl (by kernel_rfl) (run_op_store _ _ _ rfl B3 (0) rfl (mcs m) rfl _ _ B3_19 (fitM K.out) (mcs_one _) SX.out) ?_)
          have rq := row_setRow B3_19 (lay (mcs zm) (0) (mcs m))
          have oq := Only.setRow B3 y18 (lay (mcs zm) (0) (mcs m)).toArray
          generalize y18.setRow B3 (lay (mcs zm) (0) (mcs m)).toArray = y20 at rq oq ⊢
          have X_21 : Row y20 X 42 (mcs m) := X_19.only oq neXB3
          have E_21 : Row y20 E 24 (u8s l) := E_19.only oq neEB3
          have A_21 : Row y20 A 38 (acs a) := A_19.only oq neAB3
          have D_21 : Row y20 D 24 (u8s d) := D_19.only oq neDB3
          have B1_21 : Row y20 B1 42 (mcs m) := B1_19.only oq x13
          have B2_21 : Row y20 B2 42 (mcs m) := B2_19.only oq x23
          have B3_21 : Row y20 B3 42 (mcs m) := rq.congr (allM K.out)
          have B4_21 : Row y20 B4 42 (mcs zm) := B4_19.only oq (Ne.symm x34)
          have B5_21 : Row y20 B5 42 (mcs zm) := B5_19.only oq (Ne.symm x35)
          have bel_21 : Below w.heap.size w y20 := below_only bel_19 oq geB3 bel_19.size
          clear X_19 E_19 A_19 D_19 B1_19 B2_19 B3_19 B4_19 B5_19 bel_19 oq
          clear rq
          refine ⟨⟨X_21, trivial⟩, ?_⟩
          refine h_one (i := 13) (by kernel_rfl) (o_skip rfl rfl (by kernel_rfl) (run_op_store _ _ _ rfl B4 (0) rfl (mcs m) rfl _ _ B4_21 (fitM K.out) (mcs_one _) SX.out) ?_)
          have rq := row_setRow B4_21 (lay (mcs zm) (0) (mcs m))
          have oq := Only.setRow B4 y20 (lay (mcs zm) (0) (mcs m)).toArray
          generalize y20.setRow B4 (lay (mcs zm) (0) (mcs m)).toArray = y22 at rq oq ⊢
          have X_23 : Row y22 X 42 (mcs m) := X_21.only oq neXB4
          have E_23 : Row y22 E 24 (u8s l) := E_21.only oq neEB4
          have A_23 : Row y22 A 38 (acs a) := A_21.only oq neAB4
          have D_23 : Row y22 D 24 (u8s d) := D_21.only oq neDB4
          have B1_23 : Row y22 B1 42 (mcs m) := B1_21.only oq x14
          have B2_23 : Row y22 B2 42 (mcs m) := B2_21.only oq x24
          have B3_23 : Row y22 B3 42 (mcs m) := B3_21.only oq x34
          have B4_23 : Row y22 B4 42 (mcs m) := rq.congr (allM K.out)
          have B5_23 : Row y22 B5 42 (mcs zm) := B5_21.only oq (Ne.symm x45)
          have bel_23 : Below w.heap.size w y22 := below_only bel_21 oq geB4 bel_21.size
          clear X_21 E_21 A_21 D_21 B1_21 B2_21 B3_21 B4_21 B5_21 bel_21 oq
          clear rq
          refine ⟨⟨X_23, trivial⟩, ?_⟩
          refine h_one (i := 14) (by kernel_rfl) (o_skip rfl rfl (by kernel_rfl) (run_op_store _ _ _ rfl B5 (0) rfl (mcs m) rfl _ _ B5_23 (fitM K.out) (mcs_one _) SX.out) ?_)
          have rq := row_setRow B5_23 (lay (mcs zm) (0) (mcs m))
          have oq := Only.setRow B5 y22 (lay (mcs zm) (0) (mcs m)).toArray
          generalize y22.setRow B5 (lay (mcs zm) (0) (mcs m)).toArray = y24 at rq oq ⊢
          have X_25 : Row y24 X 42 (mcs m) := X_23.only oq neXB5
          have E_25 : Row y24 E 24 (u8s l) := E_23.only oq neEB5
          have A_25 : Row y24 A 38 (acs a) := A_23.only oq neAB5
          have D_25 : Row y24 D 24 (u8s d) := D_23.only oq neDB5
          have B1_25 : Row y24 B1 42 (mcs m) := B1_23.only oq x15
          have B2_25 : Row y24 B2 42 (mcs m) := B2_23.only oq x25
          have B3_25 : Row y24 B3 42 (mcs m) := B3_23.only oq x35
          have B4_25 : Row y24 B4 42 (mcs m) := B4_23.only oq x45
          have B5_25 : Row y24 B5 42 (mcs m) := rq.congr (allM K.out)
          have bel_25 : Below w.heap.size w y24 := below_only bel_23 oq geB5 bel_23.size
          clear X_23 E_23 A_23 D_23 B1_23 B2_23 B3_23 B4_23 B5_23 bel_23 oq
          clear rq
          refine ⟨⟨X_25, trivial⟩, ?_⟩
          refine wpAnyH_done (by kernel_rfl) ?_ _
          go_wp2_with fail
          refine wp_region_held (S := fun w' => Row w' E 24 (u8s l) ∧ Row w' A 38 (acs a) ∧ Row w' D 24 (u8s d) ∧ True) (by kernel_rfl) ?_
          change wpAnyH _ _ _ _ _ _ _ _ y24.drew
          have hd26 : Below y24.heap.size y24 y24.drew := (Below.refl _ _).drew
          have X_27 : Row y24.drew X 42 (mcs m) := X_25.old hd26
          have E_27 : Row y24.drew E 24 (u8s l) := E_25.old hd26
          have A_27 : Row y24.drew A 38 (acs a) := A_25.old hd26
          have D_27 : Row y24.drew D 24 (u8s d) := D_25.old hd26
          have B1_27 : Row y24.drew B1 42 (mcs m) := B1_25.old hd26
          have B2_27 : Row y24.drew B2 42 (mcs m) := B2_25.old hd26
          have B3_27 : Row y24.drew B3 42 (mcs m) := B3_25.old hd26
          have B4_27 : Row y24.drew B4 42 (mcs m) := B4_25.old hd26
          have B5_27 : Row y24.drew B5 42 (mcs m) := B5_25.old hd26
          have bel_27 : Below w.heap.size w y24.drew := below_step bel_25 bel_25.size hd26
          clear X_25 E_25 A_25 D_25 B1_25 B2_25 B3_25 B4_25 B5_25 bel_25 hd26
          generalize y24.drew = yz26 at X_27 E_27 A_27 D_27 B1_27 B2_27 B3_27 B4_27 B5_27 bel_27 ⊢
          refine h_take 0 (.int .u32 (v : Int)) rfl 42 rfl (by kernel_rfl) (by kernel_rfl) (by kernel_rfl) (by kernel_rfl) (fun _ _ _ h => h) (fun w' _ => by kernel_rfl) ⟨E_27, A_27, D_27, trivial⟩ ?_
          simp only [Act.put, List.setIfInBounds_toArray, List.set_cons_zero, List.set_cons_succ]
          refine h_take 1 (.agg (u8s l).toArray) rfl 43 rfl (by kernel_rfl) (by kernel_rfl) (by kernel_rfl) (by kernel_rfl) (fun _ _ _ h => h) (fun w' hw => run_op_load _ _ rfl E (0) rfl (u8s l) (((Has.refl _)).range hw.1) ((szH KL.out))) ⟨E_27, A_27, D_27, trivial⟩ ?_
          simp only [Act.put, List.setIfInBounds_toArray, List.set_cons_zero, List.set_cons_succ]
          refine h_take 2 (.int .i64 pl) rfl 44 rfl (by kernel_rfl) (by kernel_rfl) (by kernel_rfl) (by kernel_rfl) (fun _ _ _ h => h) (fun w' _ => by kernel_rfl) ⟨E_27, A_27, D_27, trivial⟩ ?_
          simp only [Act.put, List.setIfInBounds_toArray, List.set_cons_zero, List.set_cons_succ]
          refine h_take 3 (.agg (acs a).toArray) rfl 45 rfl (by kernel_rfl) (by kernel_rfl) (by kernel_rfl) (by kernel_rfl) (fun _ _ _ h => h) (fun w' hw => run_op_load _ _ rfl A (0) rfl (acs a) (((Has.refl _)).range hw.2.1) ((sz_acc a))) ⟨E_27, A_27, D_27, trivial⟩ ?_
          simp only [Act.put, List.setIfInBounds_toArray, List.set_cons_zero, List.set_cons_succ]
          refine h_take 4 (.agg (u8s d).toArray) rfl 46 rfl (by kernel_rfl) (by kernel_rfl) (by kernel_rfl) (by kernel_rfl) (fun _ _ _ h => h) (fun w' hw => run_op_load _ _ rfl D (0) rfl (u8s d) (((Has.refl _)).range hw.2.2.1) ((szH KD.out))) ⟨E_27, A_27, D_27, trivial⟩ ?_
          simp only [Act.put, List.setIfInBounds_toArray, List.set_cons_zero, List.set_cons_succ]
          refine h_take 14 (.pointer (some ⟨B5, 369, none⟩)) rfl 52 rfl (by kernel_rfl) (by kernel_rfl) (by kernel_rfl) (by kernel_rfl) (fun _ _ _ h => h) (fun w' _ => by kernel_rfl) ⟨E_27, A_27, D_27, trivial⟩ ?_
          simp only [Act.put, List.setIfInBounds_toArray, List.set_cons_zero, List.set_cons_succ]
          refine h_take 5 (.pointer (some ⟨B1, 1, none⟩)) rfl 47 rfl (by kernel_rfl) (by kernel_rfl) (by kernel_rfl) (by kernel_rfl) (fun _ _ _ h => h) (fun w' _ => by kernel_rfl) ⟨E_27, A_27, D_27, trivial⟩ ?_
          simp only [Act.put, List.setIfInBounds_toArray, List.set_cons_zero, List.set_cons_succ]
          refine h_one (i := 6) (by kernel_rfl) (o_skip rfl rfl (by kernel_rfl) (run_op_storeV _ _ _ rfl B1 1 rfl (.int .u32 (v : Int)) rfl (one_i _ _) (by kernel_rfl) _ _ B1_27 (lt_m K.out (by decide))) ?_)
          have rq := row_setRow B1_27 ((mcs m).set 1 (.int .u32 (v : Int)))
          have oq := Only.setRow B1 yz26 ((mcs m).set 1 (.int .u32 (v : Int))).toArray
          generalize yz26.setRow B1 ((mcs m).set 1 (.int .u32 (v : Int))).toArray = y28 at rq oq ⊢
          have X_29 : Row y28 X 42 (mcs m) := X_27.only oq neXB1
          have E_29 : Row y28 E 24 (u8s l) := E_27.only oq neEB1
          have A_29 : Row y28 A 38 (acs a) := A_27.only oq neAB1
          have D_29 : Row y28 D 24 (u8s d) := D_27.only oq neDB1
          have B1_29 : Row y28 B1 42 (mcs m1) := rq.congr HSET1.out
          have B2_29 : Row y28 B2 42 (mcs m) := B2_27.only oq (Ne.symm x12)
          have B3_29 : Row y28 B3 42 (mcs m) := B3_27.only oq (Ne.symm x13)
          have B4_29 : Row y28 B4 42 (mcs m) := B4_27.only oq (Ne.symm x14)
          have B5_29 : Row y28 B5 42 (mcs m) := B5_27.only oq (Ne.symm x15)
          have bel_29 : Below w.heap.size w y28 := below_only bel_27 oq geB1 bel_27.size
          clear X_27 E_27 A_27 D_27 B1_27 B2_27 B3_27 B4_27 B5_27 bel_27 oq
          clear rq
          refine ⟨⟨E_29, A_29, D_29, trivial⟩, ?_⟩
          refine h_take 7 (.pointer (some ⟨B2, 2, none⟩)) rfl 48 rfl (by kernel_rfl) (by kernel_rfl) (by kernel_rfl) (by kernel_rfl) (fun _ _ _ h => h) (fun w' _ => by kernel_rfl) ⟨E_29, A_29, D_29, trivial⟩ ?_
          simp only [Act.put, List.setIfInBounds_toArray, List.set_cons_zero, List.set_cons_succ]
          refine h_take 8 (.pointer (some ⟨B2, 34, none⟩)) rfl 49 rfl (by kernel_rfl) (by kernel_rfl) (by kernel_rfl) (by kernel_rfl) (fun _ _ _ h => h) (fun w' _ => by kernel_rfl) ⟨E_29, A_29, D_29, trivial⟩ ?_
          simp only [Act.put, List.setIfInBounds_toArray, List.set_cons_zero, List.set_cons_succ]
          refine h_one (i := 9) (by kernel_rfl) (o_skip rfl rfl (by kernel_rfl) (run_op_store _ _ _ rfl B2 (34) rfl (u8s l) rfl _ _ B2_29 (by rw [h_len KL.out, mcs_len K.out]; omega) (u8s_one _) (szH KL.out)) ?_)
          have rq := row_setRow B2_29 (lay (mcs m) (34) (u8s l))
          have oq := Only.setRow B2 y28 (lay (mcs m) (34) (u8s l)).toArray
          generalize y28.setRow B2 (lay (mcs m) (34) (u8s l)).toArray = y30 at rq oq ⊢
          have X_31 : Row y30 X 42 (mcs m) := X_29.only oq neXB2
          have E_31 : Row y30 E 24 (u8s l) := E_29.only oq neEB2
          have A_31 : Row y30 A 38 (acs a) := A_29.only oq neAB2
          have D_31 : Row y30 D 24 (u8s d) := D_29.only oq neDB2
          have B1_31 : Row y30 B1 42 (mcs m1) := B1_29.only oq x12
          have B2_31 : Row y30 B2 42 (mcs m2) := rq.congr HSET2.out
          have B3_31 : Row y30 B3 42 (mcs m) := B3_29.only oq (Ne.symm x23)
          have B4_31 : Row y30 B4 42 (mcs m) := B4_29.only oq (Ne.symm x24)
          have B5_31 : Row y30 B5 42 (mcs m) := B5_29.only oq (Ne.symm x25)
          have bel_31 : Below w.heap.size w y30 := below_only bel_29 oq geB2 bel_29.size
          clear X_29 E_29 A_29 D_29 B1_29 B2_29 B3_29 B4_29 B5_29 bel_29 oq
          clear rq
          refine ⟨⟨E_31, A_31, D_31, trivial⟩, ?_⟩
          refine h_take 10 (.pointer (some ⟨B3, 365, none⟩)) rfl 50 rfl (by kernel_rfl) (by kernel_rfl) (by kernel_rfl) (by kernel_rfl) (fun _ _ _ h => h) (fun w' _ => by kernel_rfl) ⟨E_31, A_31, D_31, trivial⟩ ?_
          simp only [Act.put, List.setIfInBounds_toArray, List.set_cons_zero, List.set_cons_succ]
          refine h_one (i := 11) (by kernel_rfl) (o_skip rfl rfl (by kernel_rfl) (run_op_storeV _ _ _ rfl B3 365 rfl (.int .i64 pl) rfl (one_i _ _) (by kernel_rfl) _ _ B3_31 (lt_m K.out (by decide))) ?_)
          have rq := row_setRow B3_31 ((mcs m).set 365 (.int .i64 pl))
          have oq := Only.setRow B3 y30 ((mcs m).set 365 (.int .i64 pl)).toArray
          generalize y30.setRow B3 ((mcs m).set 365 (.int .i64 pl)).toArray = y32 at rq oq ⊢
          have X_33 : Row y32 X 42 (mcs m) := X_31.only oq neXB3
          have E_33 : Row y32 E 24 (u8s l) := E_31.only oq neEB3
          have A_33 : Row y32 A 38 (acs a) := A_31.only oq neAB3
          have D_33 : Row y32 D 24 (u8s d) := D_31.only oq neDB3
          have B1_33 : Row y32 B1 42 (mcs m1) := B1_31.only oq x13
          have B2_33 : Row y32 B2 42 (mcs m2) := B2_31.only oq x23
          have B3_33 : Row y32 B3 42 (mcs m3) := rq.congr HSET3.out
          have B4_33 : Row y32 B4 42 (mcs m) := B4_31.only oq (Ne.symm x34)
          have B5_33 : Row y32 B5 42 (mcs m) := B5_31.only oq (Ne.symm x35)
          have bel_33 : Below w.heap.size w y32 := below_only bel_31 oq geB3 bel_31.size
          clear X_31 E_31 A_31 D_31 B1_31 B2_31 B3_31 B4_31 B5_31 bel_31 oq
          clear rq
          refine ⟨⟨E_33, A_33, D_33, trivial⟩, ?_⟩
          refine h_take 12 (.pointer (some ⟨B4, 366, none⟩)) rfl 51 rfl (by kernel_rfl) (by kernel_rfl) (by kernel_rfl) (by kernel_rfl) (fun _ _ _ h => h) (fun w' _ => by kernel_rfl) ⟨E_33, A_33, D_33, trivial⟩ ?_
          simp only [Act.put, List.setIfInBounds_toArray, List.set_cons_zero, List.set_cons_succ]
          refine h_one (i := 13) (by kernel_rfl) (o_skip rfl rfl (by kernel_rfl) (run_op_store _ _ _ rfl B4 (366) rfl (acs a) rfl _ _ B4_33 (by rw [acs_len, mcs_len K.out]; omega) (acs_one _) (sz_acc a)) ?_)
          have rq := row_setRow B4_33 (lay (mcs m) (366) (acs a))
          have oq := Only.setRow B4 y32 (lay (mcs m) (366) (acs a)).toArray
          generalize y32.setRow B4 (lay (mcs m) (366) (acs a)).toArray = y34 at rq oq ⊢
          have X_35 : Row y34 X 42 (mcs m) := X_33.only oq neXB4
          have E_35 : Row y34 E 24 (u8s l) := E_33.only oq neEB4
          have A_35 : Row y34 A 38 (acs a) := A_33.only oq neAB4
          have D_35 : Row y34 D 24 (u8s d) := D_33.only oq neDB4
          have B1_35 : Row y34 B1 42 (mcs m1) := B1_33.only oq x14
          have B2_35 : Row y34 B2 42 (mcs m2) := B2_33.only oq x24
          have B3_35 : Row y34 B3 42 (mcs m3) := B3_33.only oq x34
          have B4_35 : Row y34 B4 42 (mcs m4) := rq.congr HSET4.out
          have B5_35 : Row y34 B5 42 (mcs m) := B5_33.only oq (Ne.symm x45)
          have bel_35 : Below w.heap.size w y34 := below_only bel_33 oq geB4 bel_33.size
          clear X_33 E_33 A_33 D_33 B1_33 B2_33 B3_33 B4_33 B5_33 bel_33 oq
          clear rq
          refine ⟨⟨E_35, A_35, D_35, trivial⟩, ?_⟩
          refine h_take 15 (.pointer (some ⟨B5, 369, none⟩)) rfl 53 rfl (by kernel_rfl) (by kernel_rfl) (by kernel_rfl) (by kernel_rfl) (fun _ _ _ h => h) (fun w' _ => run_op_arr _ _ _ rfl 4 24 32 (by kernel_rfl) (by kernel_rfl) B5 369 rfl .i64 _ rfl 0 rfl (by decide) 369 rfl w') ⟨E_35, A_35, D_35, trivial⟩ ?_
          simp only [Act.put, List.setIfInBounds_toArray, List.set_cons_zero, List.set_cons_succ]
          refine h_one (i := 16) (by kernel_rfl) (o_skip rfl rfl (by kernel_rfl) (run_op_store _ _ _ rfl B5 (369) rfl (u8s d) rfl _ _ B5_35 (by rw [h_len KD.out, mcs_len K.out]; omega) (u8s_one _) (szH KD.out)) ?_)
          have rq := row_setRow B5_35 (lay (mcs m) (369) (u8s d))
          have oq := Only.setRow B5 y34 (lay (mcs m) (369) (u8s d)).toArray
          generalize y34.setRow B5 (lay (mcs m) (369) (u8s d)).toArray = y36 at rq oq ⊢
          have X_37 : Row y36 X 42 (mcs m) := X_35.only oq neXB5
          have E_37 : Row y36 E 24 (u8s l) := E_35.only oq neEB5
          have A_37 : Row y36 A 38 (acs a) := A_35.only oq neAB5
          have D_37 : Row y36 D 24 (u8s d) := D_35.only oq neDB5
          have B1_37 : Row y36 B1 42 (mcs m1) := B1_35.only oq x15
          have B2_37 : Row y36 B2 42 (mcs m2) := B2_35.only oq x25
          have B3_37 : Row y36 B3 42 (mcs m3) := B3_35.only oq x35
          have B4_37 : Row y36 B4 42 (mcs m4) := B4_35.only oq x45
          have B5_37 : Row y36 B5 42 (mcs m5) := rq.congr HSET5.out
          have bel_37 : Below w.heap.size w y36 := below_only bel_35 oq geB5 bel_35.size
          clear X_35 E_35 A_35 D_35 B1_35 B2_35 B3_35 B4_35 B5_35 bel_35 oq
          clear rq
          refine ⟨⟨E_37, A_37, D_37, trivial⟩, ?_⟩
          refine wpAnyH_done (by kernel_rfl) ?_ _
          have ck := X_37.cell CK.out
          go_wp2_with (first
            | ((with_reducible refine at_slot 57 ?_); (refine arm_load (o := ⟨some 57, _, _, _, _, _⟩) rfl _ _ rfl B1 0 rfl (mcs m1) ((Has.refl _).range B1_37) (sz_msg K1.out) ?_); try simp only [Act.put, List.setIfInBounds_toArray, List.set_cons_zero, List.set_cons_succ]))
          clear ck
          refine (CR1.out _).mono ?_
          rintro e y38 ⟨rfl, hB⟩
          have X_39 : Row y38 X 42 (mcs m) := X_37.old hB
          have E_39 : Row y38 E 24 (u8s l) := E_37.old hB
          have A_39 : Row y38 A 38 (acs a) := A_37.old hB
          have D_39 : Row y38 D 24 (u8s d) := D_37.old hB
          have B1_39 : Row y38 B1 42 (mcs m1) := B1_37.old hB
          have B2_39 : Row y38 B2 42 (mcs m2) := B2_37.old hB
          have B3_39 : Row y38 B3 42 (mcs m3) := B3_37.old hB
          have B4_39 : Row y38 B4 42 (mcs m4) := B4_37.old hB
          have B5_39 : Row y38 B5 42 (mcs m5) := B5_37.old hB
          have bel_39 : Below w.heap.size w y38 := below_step bel_37 bel_37.size hB
          clear X_37 E_37 A_37 D_37 B1_37 B2_37 B3_37 B4_37 B5_37 bel_37 hB
          have ck := X_39.cell CK.out
          go_wp2_with (first
            | ((with_reducible refine at_slot 60 ?_); (refine arm_want (.bool b1) 60 rfl (by kernel_rfl) (cmp_eql _ _ .u32 (by kernel_rfl) _ _ rfl .u32 (v : Int) (0) rfl rfl b1 HI1.out _) ?_); try simp only [Act.put, List.setIfInBounds_toArray, List.set_cons_zero, List.set_cons_succ])
            | ((with_reducible refine at_slot 61 ?_); (refine arm_want (.bool true) 61 rfl (by kernel_rfl) (run_op_eqlBB _ _ _ rfl b1 b1 rfl rfl true HEB1.out _) ?_); try simp only [Act.put, List.setIfInBounds_toArray, List.set_cons_zero, List.set_cons_succ]))
          clear ck
          refine wp_region_held (S := fun w' => Row w' B2 42 (mcs m2) ∧ Row w' E 24 (u8s l) ∧ True) (by kernel_rfl) ?_
          change wpAnyH _ _ _ _ _ _ _ _ y38.drew
          have hd40 : Below y38.heap.size y38 y38.drew := (Below.refl _ _).drew
          have X_41 : Row y38.drew X 42 (mcs m) := X_39.old hd40
          have E_41 : Row y38.drew E 24 (u8s l) := E_39.old hd40
          have A_41 : Row y38.drew A 38 (acs a) := A_39.old hd40
          have D_41 : Row y38.drew D 24 (u8s d) := D_39.old hd40
          have B1_41 : Row y38.drew B1 42 (mcs m1) := B1_39.old hd40
          have B2_41 : Row y38.drew B2 42 (mcs m2) := B2_39.old hd40
          have B3_41 : Row y38.drew B3 42 (mcs m3) := B3_39.old hd40
          have B4_41 : Row y38.drew B4 42 (mcs m4) := B4_39.old hd40
          have B5_41 : Row y38.drew B5 42 (mcs m5) := B5_39.old hd40
          have bel_41 : Below w.heap.size w y38.drew := below_step bel_39 bel_39.size hd40
          clear X_39 E_39 A_39 D_39 B1_39 B2_39 B3_39 B4_39 B5_39 bel_39 hd40
          generalize y38.drew = yz40 at X_41 E_41 A_41 D_41 B1_41 B2_41 B3_41 B4_41 B5_41 bel_41 ⊢
          refine h_take 0 (.bool true) rfl 65 rfl (by kernel_rfl) (by kernel_rfl) (by kernel_rfl) (by kernel_rfl) (fun _ _ _ h => h) (fun w' _ => by kernel_rfl) ⟨B2_41, E_41, trivial⟩ ?_
          simp only [Act.put, List.setIfInBounds_toArray, List.set_cons_zero, List.set_cons_succ]
          refine h_take 1 (.bool true) rfl 66 rfl (by kernel_rfl) (by kernel_rfl) (by kernel_rfl) (by kernel_rfl) (fun _ _ _ h => h) (fun w' _ => by kernel_rfl) ⟨B2_41, E_41, trivial⟩ ?_
          simp only [Act.put, List.setIfInBounds_toArray, List.set_cons_zero, List.set_cons_succ]
          refine h_take 2 (.agg (mcs m2).toArray) rfl 67 rfl (by kernel_rfl) (by kernel_rfl) (by kernel_rfl) (by kernel_rfl) (fun _ _ _ h => h) (fun w' hw => run_op_load _ _ rfl B2 (0) rfl (mcs m2) (((Has.refl _)).range hw.1) ((sz_msg K2.out))) ⟨B2_41, E_41, trivial⟩ ?_
          simp only [Act.put, List.setIfInBounds_toArray, List.set_cons_zero, List.set_cons_succ]
          refine h_take 4 (.agg (u8s l).toArray) rfl 69 rfl (by kernel_rfl) (by kernel_rfl) (by kernel_rfl) (by kernel_rfl) (fun _ _ _ h => h) (fun w' hw => run_op_load _ _ rfl E (0) rfl (u8s l) (((Has.refl _)).range hw.2.1) ((szH KL.out))) ⟨B2_41, E_41, trivial⟩ ?_
          simp only [Act.put, List.setIfInBounds_toArray, List.set_cons_zero, List.set_cons_succ]
          refine h_take 5 (.agg (u8s zh).toArray) rfl 70 rfl (by kernel_rfl) (by kernel_rfl) (by kernel_rfl) (by kernel_rfl) (fun _ _ _ h => h) (fun w' _ => run_op_build _ _ rfl (u8s zh) (by simp only [List.map_toArray, List.map_nil]; exact zh_built) w') ⟨B2_41, E_41, trivial⟩ ?_
          simp only [Act.put, List.setIfInBounds_toArray, List.set_cons_zero, List.set_cons_succ]
          refine h_take 6 (.bool b2) rfl 71 rfl (by kernel_rfl) (by kernel_rfl) (by kernel_rfl) (by kernel_rfl) (fun _ _ _ h => h) (fun w' _ => run_op_eqlD KL.out zh_ok _ _ _ rfl rfl rfl b2 HI2.out w') ⟨B2_41, E_41, trivial⟩ ?_
          simp only [Act.put, List.setIfInBounds_toArray, List.set_cons_zero, List.set_cons_succ]
          refine h_one (i := 3) (by kernel_rfl) (o_call rfl 68 rfl (by kernel_rfl) (run_op_call 12 _ _ rfl #[.agg (mcs m2).toArray] (by simp only [List.map_toArray, List.map_cons, List.map_nil]; rfl) Try.func12 (by kernel_rfl) (by kernel_rfl) _) (CR2.out _) ?_)
          rintro e y42 ⟨rfl, hB⟩
          have X_43 : Row y42 X 42 (mcs m) := X_41.old hB
          have E_43 : Row y42 E 24 (u8s l) := E_41.old hB
          have A_43 : Row y42 A 38 (acs a) := A_41.old hB
          have D_43 : Row y42 D 24 (u8s d) := D_41.old hB
          have B1_43 : Row y42 B1 42 (mcs m1) := B1_41.old hB
          have B2_43 : Row y42 B2 42 (mcs m2) := B2_41.old hB
          have B3_43 : Row y42 B3 42 (mcs m3) := B3_41.old hB
          have B4_43 : Row y42 B4 42 (mcs m4) := B4_41.old hB
          have B5_43 : Row y42 B5 42 (mcs m5) := B5_41.old hB
          have bel_43 : Below w.heap.size w y42 := below_step bel_41 bel_41.size hB
          clear X_41 E_41 A_41 D_41 B1_41 B2_41 B3_41 B4_41 B5_41 bel_41 hB
          refine ⟨_, rfl, ⟨B2_43, E_43, trivial⟩, ?_⟩
          simp only [Act.put, List.setIfInBounds_toArray, List.set_cons_zero, List.set_cons_succ]
          refine h_take 7 (.bool true) rfl 72 rfl (by kernel_rfl) (by kernel_rfl) (by kernel_rfl) (by kernel_rfl) (fun _ _ _ h => h) (fun w' _ => run_op_eqlBB _ _ _ rfl b2 b2 rfl rfl true HEB2.out w') ⟨B2_43, E_43, trivial⟩ ?_
          simp only [Act.put, List.setIfInBounds_toArray, List.set_cons_zero, List.set_cons_succ]
          refine h_take 8 (.bool true) rfl 73 rfl (by kernel_rfl) (by kernel_rfl) (by kernel_rfl) (by kernel_rfl) (fun _ _ _ h => h) (fun w' _ => by kernel_rfl) ⟨B2_43, E_43, trivial⟩ ?_
          simp only [Act.put, List.setIfInBounds_toArray, List.set_cons_zero, List.set_cons_succ]
          refine h_take 9 (.bool true) rfl 18 rfl (by kernel_rfl) (by kernel_rfl) (by kernel_rfl) (by kernel_rfl) (fun _ _ _ h => h) (fun w' _ => by kernel_rfl) ⟨B2_43, E_43, trivial⟩ ?_
          simp only [Act.put, List.setIfInBounds_toArray, List.set_cons_zero, List.set_cons_succ]
          refine wpAnyH_done (by kernel_rfl) ?_ _
          have ck := X_43.cell CK.out
          go_wp2_with fail
          go_ret
          exact ⟨rfl, bel_43⟩
      · rw [mrB_false hr] at CR
        clear hr HO1 HO2 HO3 HO4 HO5 HQ
        go_enter Try.func5, Try.ntmps5
        go_wp2_with (first
          | ((with_reducible refine at_slot 6 ?_); (refine arm_box (o := ⟨some 6, _, _, _, _, _⟩) rfl _ _ rfl (mcs m) rfl ?_); intro X v1 Xe hv1 nv1; try simp only [Act.put, List.setIfInBounds_toArray, List.set_cons_zero, List.set_cons_succ])
          | ((with_reducible refine at_slot 8 ?_); (refine arm_box (o := ⟨some 8, _, _, _, _, _⟩) rfl _ _ rfl (u8s l) rfl ?_); intro E v2 Ee hv2 nv2; try simp only [Act.put, List.setIfInBounds_toArray, List.set_cons_zero, List.set_cons_succ])
          | ((with_reducible refine at_slot 10 ?_); (refine arm_box (o := ⟨some 10, _, _, _, _, _⟩) rfl _ _ rfl (acs a) rfl ?_); intro A v3 Ae hv3 nv3; try simp only [Act.put, List.setIfInBounds_toArray, List.set_cons_zero, List.set_cons_succ])
          | ((with_reducible refine at_slot 11 ?_); (refine arm_box (o := ⟨some 11, _, _, _, _, _⟩) rfl _ _ rfl (u8s d) rfl ?_); intro D v4 De hv4 nv4; try simp only [Act.put, List.setIfInBounds_toArray, List.set_cons_zero, List.set_cons_succ]))
        have hbv1 := nv1.below
        have rrv1 : Row v1 X 42 (mcs m) := hv1
        have hbv2 := nv2.below
        have rrv2 : Row v2 E 24 (u8s l) := hv2
        have hbv3 := nv3.below
        have rrv3 : Row v3 A 38 (acs a) := hv3
        have hbv4 := nv4.below
        have rrv4 : Row v4 D 24 (u8s d) := hv4
        have geX : w.heap.size ≤ X := by have := Xe.out; omega
        have lXx : w.heap.size ≤ X := by have := Xe.out; omega
        clear hv1 nv1 Xe
        have bel_5 : Below w.heap.size w v1 := hbv1
        clear hbv1
        have geE : w.heap.size ≤ E := by have := Ee.out; have := bel_5.size; omega
        have ltXE : X < E := by have := Ee.out; have := rrv1.lt; omega
        have lEx : v1.heap.size ≤ E := by have := Ee.out; omega
        clear hv2 nv2 Ee
        have X_6 : Row v2 X 42 (mcs m) := rrv1.old hbv2
        have bel_6 : Below w.heap.size w v2 := below_step bel_5 bel_5.size hbv2
        clear rrv1 bel_5 hbv2
        have geA : w.heap.size ≤ A := by have := Ae.out; have := bel_6.size; omega
        have ltEA : E < A := by have := Ae.out; have := rrv2.lt; omega
        have lAx : v2.heap.size ≤ A := by have := Ae.out; omega
        clear hv3 nv3 Ae
        have X_7 : Row v3 X 42 (mcs m) := X_6.old hbv3
        have E_7 : Row v3 E 24 (u8s l) := rrv2.old hbv3
        have bel_7 : Below w.heap.size w v3 := below_step bel_6 bel_6.size hbv3
        clear X_6 rrv2 bel_6 hbv3
        have geD : w.heap.size ≤ D := by have := De.out; have := bel_7.size; omega
        have ltAD : A < D := by have := De.out; have := rrv3.lt; omega
        have lDx : v3.heap.size ≤ D := by have := De.out; omega
        clear hv4 nv4 De
        have X_8 : Row v4 X 42 (mcs m) := X_7.old hbv4
        have E_8 : Row v4 E 24 (u8s l) := E_7.old hbv4
        have A_8 : Row v4 A 38 (acs a) := rrv3.old hbv4
        have bel_8 : Below w.heap.size w v4 := below_step bel_7 bel_7.size hbv4
        clear X_7 E_7 rrv3 bel_7 hbv4
        refine (CA.out _).mono ?_
        rintro e y9 ⟨rfl, hB⟩
        have X_10 : Row y9 X 42 (mcs m) := X_8.old hB
        have E_10 : Row y9 E 24 (u8s l) := E_8.old hB
        have A_10 : Row y9 A 38 (acs a) := A_8.old hB
        have D_10 : Row y9 D 24 (u8s d) := rrv4.old hB
        have bel_10 : Below w.heap.size w y9 := below_step bel_8 bel_8.size hB
        clear X_8 E_8 A_8 rrv4 bel_8 hB
        have cn := X_10.cell CN.out; have cna := A_10.cell CNA.out
        go_wp2_with (first
          | ((with_reducible refine at_slot 33 ?_); (refine arm_want (.agg (mcs m).toArray) 33 rfl (by kernel_rfl) (run_op_load _ _ rfl X 0 rfl (mcs m) ((Has.refl _).range X_10) SX.out) ?_); try simp only [Act.put, List.setIfInBounds_toArray, List.set_cons_zero, List.set_cons_succ]))
        refine (CR.out _).mono ?_
        rintro e y11 ⟨rfl, hB⟩
        have X_12 : Row y11 X 42 (mcs m) := X_10.old hB
        have E_12 : Row y11 E 24 (u8s l) := E_10.old hB
        have A_12 : Row y11 A 38 (acs a) := A_10.old hB
        have D_12 : Row y11 D 24 (u8s d) := D_10.old hB
        have bel_12 : Below w.heap.size w y11 := below_step bel_10 bel_10.size hB
        clear X_10 E_10 A_10 D_10 bel_10 hB
        go_wp2_with fail
        go_ret
        exact ⟨rfl, bel_12⟩
end Go.Proofs.Ytghogoijjaiccaa.Ms
