/-
  The contracts of package message's there and Right. Over this seat's translation.
-/
import Derived.Test.YtghogoijjaiccaaMsgMem
import Derived.Test.YtghogoijjaiccaaAccAll
namespace Go.Proofs.Ytghogoijjaiccaa.Ms
open Go.ChangeShapes Go.WideShapes Go.ChangeAt Go.RowKit Go.Proofs.Ytghogoijjaiccaa.Mem Go.Proofs.Ytghogoijjaiccaa.Bt Go.Proofs.Ytghogoijjaiccaa.Wi Go.Proofs.Ytghogoijjaiccaa.Ac Go.Proofs.Ytghogoijjaiccaa.Tr Go.Proofs.Ytghogoijjaiccaa.Pf
open Go.Proofs.Ytghogoijjaiccaa.Tg (bytesOf bytesOf_length bytesOf_lt bytesOf_inj Rd Rd.below)
open Go.Proofs.Ytghogoijjaiccaa.Ep (H32 zh zh_ok Has Has.refl Has.left Has.right Has.head Has.get Has.chunk Has.range h_len szH zH fitH allH one_app num32)
open Go.Proofs.Ytghogoijjaiccaa.Sa (Sta scs scs_len scs_one zs zs_ok scs_app staB staB_len SRt rdS rdS_ok sz_sta z_sta sz_rsta z_rsta fitS allS)
set_option linter.unusedVariables false
set_option linter.unusedSimpArgs false

/-- May it be? As what a call answers. -/
noncomputable def mrB (m : Msg) : Bool := @decide (MRt m) (Classical.propDecidable _)
theorem mrB_iff {m : Msg} : mrB m = true ↔ MRt m := by unfold mrB; exact @decide_eq_true_iff _ (Classical.propDecidable _)
theorem mrB_true {m : Msg} (h : MRt m) : mrB m = true := mrB_iff.2 h
theorem mrB_false {m : Msg} (h : ¬ MRt m) : mrB m = false := by
  cases hb : mrB m
  · rfl
  · exact absurd (mrB_iff.1 hb) h
theorem mrt_1 {m : Msg} (h : m.kind = 1) : MRt m ↔ m = hello m.ver := by
  obtain ⟨k, v, s, p, a, L⟩ := m
  change k = 1 at h
  subst h
  constructor
  · rintro ⟨_, _, h2, h3, _, _⟩
    have e2 : s = zs := h2 (by decide : ¬ 1 = 2)
    obtain ⟨e3, e4, e5⟩ := h3 (by decide : ¬ 1 = 4)
    change p = 0 at e3
    change a = za at e4
    change L = z4 at e5
    subst e2 e3 e4 e5
    rfl
  · intro h
    rw [h]
    exact mrt_hello _
theorem mrt_2 {m : Msg} (h : m.kind = 2) : MRt m ↔ m = tip m.st ∧ SRt m.st := by
  obtain ⟨k, v, s, p, a, L⟩ := m
  change k = 2 at h
  subst h
  constructor
  · rintro ⟨_, h1, _, h3, h4, _⟩
    have e1 : v = 0 := h1 (by decide : ¬ 2 = 1)
    obtain ⟨e3, e4, e5⟩ := h3 (by decide : ¬ 2 = 4)
    change p = 0 at e3
    change a = za at e4
    change L = z4 at e5
    subst e1 e3 e4 e5
    exact ⟨rfl, h4 rfl⟩
  · rintro ⟨h, hs⟩
    rw [h]
    exact mrt_tip hs
theorem mrt_3 {m : Msg} (h : m.kind = 3) : MRt m ↔ m = leave := by
  obtain ⟨k, v, s, p, a, L⟩ := m
  change k = 3 at h
  subst h
  constructor
  · rintro ⟨_, h1, h2, h3, _, _⟩
    have e1 : v = 0 := h1 (by decide : ¬ 3 = 1)
    have e2 : s = zs := h2 (by decide : ¬ 3 = 2)
    obtain ⟨e3, e4, e5⟩ := h3 (by decide : ¬ 3 = 4)
    change p = 0 at e3
    change a = za at e4
    change L = z4 at e5
    subst e1 e2 e3 e4 e5
    rfl
  · intro h
    rw [h]
    exact mrt_leave
theorem mrt_4 {m : Msg} (h : m.kind = 4) : MRt m ↔ m = shownI m.pl m.acc m.path ∧ (0 ≤ m.pl ∧ m.pl < 16) ∧ NRt m.acc.nm := by
  obtain ⟨k, v, s, p, a, L⟩ := m
  change k = 4 at h
  subst h
  constructor
  · rintro ⟨_, h1, h2, _, _, h5⟩
    have e1 : v = 0 := h1 (by decide : ¬ 4 = 1)
    have e2 : s = zs := h2 (by decide : ¬ 4 = 2)
    obtain ⟨g1, g2, g3⟩ := h5 rfl
    change 0 ≤ p at g1
    change p ≤ 15 at g2
    subst e1 e2
    exact ⟨rfl, ⟨g1, show p < 16 by omega⟩, g3⟩
  · rintro ⟨h, ⟨g1, g2⟩, g3⟩
    change 0 ≤ p at g1
    change p < 16 at g2
    rw [h]
    exact ⟨⟨(by decide : 1 ≤ 4), (by decide : 4 ≤ 4)⟩, fun _ => rfl, fun _ => rfl, fun h => absurd rfl h, fun h => absurd h (by decide : ¬ 4 = 2), fun _ => ⟨g1, show p ≤ 15 by omega, g3⟩⟩
theorem mrt_no {m : Msg} (h : ¬ (1 ≤ m.kind ∧ m.kind ≤ 4)) : ¬ MRt m := fun g => h g.1
theorem shownI_ok {m : Msg} (k : m.Ok) : (shownI m.pl m.acc m.path).Ok := ⟨(by decide : 4 < 256), (by decide : 0 < 4294967296), zs_ok, k.lo, k.hi, k.acc, k.path⟩
/-- What an operation of a guard yields, where the walk stands at its run. -/
theorem upon_of {P : Program} {o : Oper} {a : Act} {next : Act → World → Prop} {Q : Exit → Act → World → Prop} {r : Result Next} {v : Value} {w : World} (hr : r = .ok (.value v) w) (h : next (a.put o.dst v) w) : Oper.upon P o a next Q r := by
  rw [hr]
  exact h
theorem m_bal {m : Msg} (k : m.st.Ok) : (mcs m)[367]? = some (.int .u64 (m.acc.bal : Int)) := Has.get (Has.head (Ep.Has.tail (show Has (mcs m) 366 (.string m.acc.nm :: .int .u64 (m.acc.bal : Int) :: [.int .u32 (m.acc.non : Int)]) from m_acc k)))
theorem m_non {m : Msg} (k : m.st.Ok) : (mcs m)[368]? = some (.int .u32 (m.acc.non : Int)) := Has.get (Ep.Has.tail (Ep.Has.tail (show Has (mcs m) 366 (.string m.acc.nm :: .int .u64 (m.acc.bal : Int) :: [.int .u32 (m.acc.non : Int)]) from m_acc k)))
theorem built_ml : Try.prog.built 42 [(0, .int .u8 3)] = some (mcs leave).toArray := built_mk 3
theorem built_rl : Try.prog.built 59 [(0, .int .u8 3)] = some (mcs leave).toArray := built_rk 3
theorem bool_iff {b : Bool} {p q : Prop} (h : b = true ↔ p) (g : p ↔ q) : b = true ↔ q := h.trans g
set_option maxHeartbeats 4000000 in
set_option maxRecDepth 100000 in
theorem there17_any (p : Int) (w : World) :
    Calls Try.prog 34 #[.int .i64 p] w fun e w' => e = .returned (.bool (decide (0 ≤ p ∧ p < 16))) ∧ w = w' := by
  by_cases h0 : 0 ≤ p
  · have d0 : decide ((0 : Int) ≤ p) = true := decide_eq_true h0
    have hd : decide (0 ≤ p ∧ p < 16) = decide (p < 16) := by simp [h0]
    rw [hd]
    clear hd
    go_enter Try.func34, Try.ntmps34
    go_wp2_with fail
    go_ret
    exact ⟨rfl, rfl⟩
  · have d0 : decide ((0 : Int) ≤ p) = false := decide_eq_false h0
    have hd : decide (0 ≤ p ∧ p < 16) = false := decide_eq_false fun h => h0 h.1
    rw [hd]
    clear hd
    go_enter Try.func34, Try.ntmps34
    go_wp2_with fail
    go_ret
    exact ⟨rfl, rfl⟩
set_option maxHeartbeats 4000000 in
set_option maxRecDepth 100000 in
theorem mright_any (m : Msg) (w : World) (k : m.Ok) :
    Calls Try.prog 12 #[.agg (mcs m).toArray] w fun e w' => e = .returned (.bool (mrB m)) ∧ Below w.heap.size w w' := by
  have K := Lib.hid k
  have SM := Lib.hid (sz_msg k)
  have CK := Lib.hid (m_kind m).get
  have CV := Lib.hid (m_ver m).get
  have CP := Lib.hid (m_pl k.st).get
  have HS := Lib.hid (m_st m); have HA := Lib.hid (m_acc k.st); have HP := Lib.hid (m_path k.st)
  have CA0 := Lib.hid (m_nm k.st).get; have CA1 := Lib.hid (m_bal k.st); have CA2 := Lib.hid (m_non k.st)
  have SS := Lib.hid (sz_sta k.st); have SP := Lib.hid (sz_path k.path.ok k.path.len)
  have H1 := Lib.hid (fun h => @mrt_1 m h); have H2 := Lib.hid (fun h => @mrt_2 m h); have H3 := Lib.hid (fun h => @mrt_3 m h); have H4 := Lib.hid (fun h => @mrt_4 m h); have H0 := Lib.hid (fun h => @mrt_no m h)
  have HB := Lib.hid (@mrB_iff m)
  have HT := Lib.hid (fun h => @mrB_true m h); have HF := Lib.hid (fun h => @mrB_false m h)
  obtain ⟨q, hq⟩ : ∃ q, q = m.kind := ⟨_, rfl⟩
  rw [← hq] at CK H1 H2 H3 H4 H0
  clear hq k
  by_cases hq1 : q = 1
  · skip
    have e1 : ((q : Int) == 1) = true := by simp [hq1]
    have e2 : ((q : Int) == 2) = false := by simp; omega
    have e3 : ((q : Int) == 3) = false := by simp; omega
    have e4 : ((q : Int) == 4) = false := by simp; omega
    have HE := Lib.hid (bool_iff HB.out (H1.out hq1))
    have HK := Lib.hid (hello_ok (v := m.ver) K.out.ver)
    clear H1 H2 H3 H4 H0 HB HT HF hq1
    generalize mrB m = b at HE ⊢
    go_enter Try.func12, Try.ntmps12
    go_wp2_with (first
      | ((with_reducible refine at_slot 1 ?_); (refine arm_box (o := ⟨some 1, _, _, _, _, _⟩) rfl _ _ rfl (mcs m) rfl ?_); intro X v1 Xe hv1 nv1; try simp only [Act.put, List.setIfInBounds_toArray, List.set_cons_zero, List.set_cons_succ])
      | ((with_reducible refine at_slot 4 ?_); (refine arm_want (.int .u8 (q : Int)) 4 rfl (by kernel_rfl) (run_op_load1 _ _ rfl (.int .u8) (by kernel_rfl) rfl ⟨X, 0, none⟩ rfl (.int .u8 (q : Int)) (hv1.cell CK.out)) ?_); try simp only [Act.put, List.setIfInBounds_toArray, List.set_cons_zero, List.set_cons_succ])
      | ((with_reducible refine at_slot 7 ?_); (refine arm_load (o := ⟨some 7, _, _, _, _, _⟩) rfl _ _ rfl X 0 rfl (mcs m) ((Has.refl _).range hv1) SM.out ?_); try simp only [Act.put, List.setIfInBounds_toArray, List.set_cons_zero, List.set_cons_succ])
      | ((with_reducible refine at_slot 9 ?_); (refine arm_want (.int .u32 (m.ver : Int)) 9 rfl (by kernel_rfl) (run_op_load1 _ _ rfl (.int .u32) (by kernel_rfl) rfl ⟨X, 1, none⟩ rfl (.int .u32 (m.ver : Int)) (hv1.cell CV.out)) ?_); try simp only [Act.put, List.setIfInBounds_toArray, List.set_cons_zero, List.set_cons_succ])
      | ((with_reducible refine at_slot 10 ?_); (refine arm_build (o := ⟨some 10, _, _, _, _, _⟩) rfl _ _ rfl (mcs (hello m.ver)) (by simp only [List.map_toArray, List.map_cons, List.map_nil]; exact built_mh _) ?_); try simp only [Act.put, List.setIfInBounds_toArray, List.set_cons_zero, List.set_cons_succ])
      | ((with_reducible refine at_slot 11 ?_); (refine arm_want (.bool b) 11 rfl (by kernel_rfl) (run_op_eqlM K.out HK.out _ _ _ rfl rfl rfl b HE.out _) ?_); try simp only [Act.put, List.setIfInBounds_toArray, List.set_cons_zero, List.set_cons_succ]))
    have hbv1 := nv1.below
    have rrv1 : Row v1 X 42 (mcs m) := hv1
    have geX : w.heap.size ≤ X := by have := Xe.out; omega
    clear hv1 nv1 Xe
    have bel_2 : Below w.heap.size w v1 := hbv1
    clear hbv1
    go_ret
    exact ⟨rfl, bel_2⟩
  by_cases hq2 : q = 2
  · clear hq1
    rename q = 2 => hq1
    have e1 : ((q : Int) == 1) = false := by simp; omega
    have e2 : ((q : Int) == 2) = true := by simp [hq1]
    have e3 : ((q : Int) == 3) = false := by simp; omega
    have e4 : ((q : Int) == 4) = false := by simp; omega
    have HE := Lib.hid (H2.out hq1)
    have HK := Lib.hid (tip_ok K.out.st)
    clear H1 H2 H3 H4 H0 HB hq1
    by_cases ht : m = tip m.st
    · by_cases hs : SRt m.st
      · have HR : Hid (mrB m = true) := Lib.hid (HT.out (HE.out.2 ⟨ht, hs⟩))
        rw [HR.out]
        have CR : Hid (∀ w0, Calls Try.prog 33 #[.agg (scs m.st).toArray] w0 fun e w' => e = .returned (.bool true) ∧ Below w0.heap.size w0 w') := Lib.hid fun w0 => (Sa.right_any m.st w0 K.out.st).mono fun e w' h => ⟨by rw [h.1, decide_eq_true hs], h.2⟩
        have HTT : Hid (m = tip m.st) := Lib.hid ht
        clear ht hs HE HT HF
        go_enter Try.func12, Try.ntmps12
        go_wp2_with (first
          | ((with_reducible refine at_slot 1 ?_); (refine arm_box (o := ⟨some 1, _, _, _, _, _⟩) rfl _ _ rfl (mcs m) rfl ?_); intro X v1 Xe hv1 nv1; try simp only [Act.put, List.setIfInBounds_toArray, List.set_cons_zero, List.set_cons_succ])
          | ((with_reducible refine at_slot 4 ?_); (refine arm_want (.int .u8 (q : Int)) 4 rfl (by kernel_rfl) (run_op_load1 _ _ rfl (.int .u8) (by kernel_rfl) rfl ⟨X, 0, none⟩ rfl (.int .u8 (q : Int)) (hv1.cell CK.out)) ?_); try simp only [Act.put, List.setIfInBounds_toArray, List.set_cons_zero, List.set_cons_succ])
          | ((with_reducible refine at_slot 14 ?_); (refine arm_load (o := ⟨some 14, _, _, _, _, _⟩) rfl _ _ rfl X 0 rfl (mcs m) ((Has.refl _).range hv1) SM.out ?_); try simp only [Act.put, List.setIfInBounds_toArray, List.set_cons_zero, List.set_cons_succ])
          | ((with_reducible refine at_slot 16 ?_); (refine arm_load (o := ⟨some 16, _, _, _, _, _⟩) rfl _ _ rfl X 2 rfl (scs m.st) (HS.out.range hv1) SS.out ?_); try simp only [Act.put, List.setIfInBounds_toArray, List.set_cons_zero, List.set_cons_succ])
          | ((with_reducible refine at_slot 17 ?_); (refine arm_build (o := ⟨some 17, _, _, _, _, _⟩) rfl _ _ rfl (mcs (tip m.st)) (by simp only [List.map_toArray, List.map_cons, List.map_nil]; exact built_mt K.out.st) ?_); try simp only [Act.put, List.setIfInBounds_toArray, List.set_cons_zero, List.set_cons_succ])
          | ((with_reducible refine at_slot 18 ?_); (refine arm_want (.bool true) 18 rfl (by kernel_rfl) (run_op_eqlM K.out HK.out _ _ _ rfl rfl rfl true (iff_of_true rfl HTT.out) _) ?_); try simp only [Act.put, List.setIfInBounds_toArray, List.set_cons_zero, List.set_cons_succ]))
        have hbv1 := nv1.below
        have rrv1 : Row v1 X 42 (mcs m) := hv1
        have geX : w.heap.size ≤ X := by have := Xe.out; omega
        clear hv1 nv1 Xe
        have bel_2 : Below w.heap.size w v1 := hbv1
        clear hbv1
        refine upon_of (v := .agg (scs m.st).toArray) (w := v1) ?_ ?_
        · exact run_op_load _ _ rfl X (2) rfl (scs m.st) (HS.out.range rrv1) (SS.out)
        try simp only [Act.put, List.setIfInBounds_toArray, List.set_cons_zero, List.set_cons_succ]
        go_wp2_with fail
        refine (CR.out _).mono ?_
        rintro e y3 ⟨rfl, hB⟩
        have X_4 : Row y3 X 42 (mcs m) := rrv1.old hB
        have bel_4 : Below w.heap.size w y3 := below_step bel_2 bel_2.size hB
        clear rrv1 bel_2 hB
        go_wp2_with fail
        go_ret
        exact ⟨rfl, bel_4⟩
      · have HR : Hid (mrB m = false) := Lib.hid (HF.out (fun h => hs (HE.out.1 h).2))
        rw [HR.out]
        have CR : Hid (∀ w0, Calls Try.prog 33 #[.agg (scs m.st).toArray] w0 fun e w' => e = .returned (.bool false) ∧ Below w0.heap.size w0 w') := Lib.hid fun w0 => (Sa.right_any m.st w0 K.out.st).mono fun e w' h => ⟨by rw [h.1, decide_eq_false hs], h.2⟩
        have HTT : Hid (m = tip m.st) := Lib.hid ht
        clear ht hs HE HT HF
        go_enter Try.func12, Try.ntmps12
        go_wp2_with (first
          | ((with_reducible refine at_slot 1 ?_); (refine arm_box (o := ⟨some 1, _, _, _, _, _⟩) rfl _ _ rfl (mcs m) rfl ?_); intro X v1 Xe hv1 nv1; try simp only [Act.put, List.setIfInBounds_toArray, List.set_cons_zero, List.set_cons_succ])
          | ((with_reducible refine at_slot 4 ?_); (refine arm_want (.int .u8 (q : Int)) 4 rfl (by kernel_rfl) (run_op_load1 _ _ rfl (.int .u8) (by kernel_rfl) rfl ⟨X, 0, none⟩ rfl (.int .u8 (q : Int)) (hv1.cell CK.out)) ?_); try simp only [Act.put, List.setIfInBounds_toArray, List.set_cons_zero, List.set_cons_succ])
          | ((with_reducible refine at_slot 14 ?_); (refine arm_load (o := ⟨some 14, _, _, _, _, _⟩) rfl _ _ rfl X 0 rfl (mcs m) ((Has.refl _).range hv1) SM.out ?_); try simp only [Act.put, List.setIfInBounds_toArray, List.set_cons_zero, List.set_cons_succ])
          | ((with_reducible refine at_slot 16 ?_); (refine arm_load (o := ⟨some 16, _, _, _, _, _⟩) rfl _ _ rfl X 2 rfl (scs m.st) (HS.out.range hv1) SS.out ?_); try simp only [Act.put, List.setIfInBounds_toArray, List.set_cons_zero, List.set_cons_succ])
          | ((with_reducible refine at_slot 17 ?_); (refine arm_build (o := ⟨some 17, _, _, _, _, _⟩) rfl _ _ rfl (mcs (tip m.st)) (by simp only [List.map_toArray, List.map_cons, List.map_nil]; exact built_mt K.out.st) ?_); try simp only [Act.put, List.setIfInBounds_toArray, List.set_cons_zero, List.set_cons_succ])
          | ((with_reducible refine at_slot 18 ?_); (refine arm_want (.bool true) 18 rfl (by kernel_rfl) (run_op_eqlM K.out HK.out _ _ _ rfl rfl rfl true (iff_of_true rfl HTT.out) _) ?_); try simp only [Act.put, List.setIfInBounds_toArray, List.set_cons_zero, List.set_cons_succ]))
        have hbv1 := nv1.below
        have rrv1 : Row v1 X 42 (mcs m) := hv1
        have geX : w.heap.size ≤ X := by have := Xe.out; omega
        clear hv1 nv1 Xe
        have bel_2 : Below w.heap.size w v1 := hbv1
        clear hbv1
        refine upon_of (v := .agg (scs m.st).toArray) (w := v1) ?_ ?_
        · exact run_op_load _ _ rfl X (2) rfl (scs m.st) (HS.out.range rrv1) (SS.out)
        try simp only [Act.put, List.setIfInBounds_toArray, List.set_cons_zero, List.set_cons_succ]
        go_wp2_with fail
        refine (CR.out _).mono ?_
        rintro e y3 ⟨rfl, hB⟩
        have X_4 : Row y3 X 42 (mcs m) := rrv1.old hB
        have bel_4 : Below w.heap.size w y3 := below_step bel_2 bel_2.size hB
        clear rrv1 bel_2 hB
        go_wp2_with fail
        go_ret
        exact ⟨rfl, bel_4⟩
    · have HR : Hid (mrB m = false) := Lib.hid (HF.out (fun h => ht (HE.out.1 h).1))
      rw [HR.out]
      have HTT : Hid (¬ m = tip m.st) := Lib.hid ht
      clear ht HE HT HF
      go_enter Try.func12, Try.ntmps12
      go_wp2_with (first
        | ((with_reducible refine at_slot 1 ?_); (refine arm_box (o := ⟨some 1, _, _, _, _, _⟩) rfl _ _ rfl (mcs m) rfl ?_); intro X v1 Xe hv1 nv1; try simp only [Act.put, List.setIfInBounds_toArray, List.set_cons_zero, List.set_cons_succ])
        | ((with_reducible refine at_slot 4 ?_); (refine arm_want (.int .u8 (q : Int)) 4 rfl (by kernel_rfl) (run_op_load1 _ _ rfl (.int .u8) (by kernel_rfl) rfl ⟨X, 0, none⟩ rfl (.int .u8 (q : Int)) (hv1.cell CK.out)) ?_); try simp only [Act.put, List.setIfInBounds_toArray, List.set_cons_zero, List.set_cons_succ])
        | ((with_reducible refine at_slot 14 ?_); (refine arm_load (o := ⟨some 14, _, _, _, _, _⟩) rfl _ _ rfl X 0 rfl (mcs m) ((Has.refl _).range hv1) SM.out ?_); try simp only [Act.put, List.setIfInBounds_toArray, List.set_cons_zero, List.set_cons_succ])
        | ((with_reducible refine at_slot 16 ?_); (refine arm_load (o := ⟨some 16, _, _, _, _, _⟩) rfl _ _ rfl X 2 rfl (scs m.st) (HS.out.range hv1) SS.out ?_); try simp only [Act.put, List.setIfInBounds_toArray, List.set_cons_zero, List.set_cons_succ])
        | ((with_reducible refine at_slot 17 ?_); (refine arm_build (o := ⟨some 17, _, _, _, _, _⟩) rfl _ _ rfl (mcs (tip m.st)) (by simp only [List.map_toArray, List.map_cons, List.map_nil]; exact built_mt K.out.st) ?_); try simp only [Act.put, List.setIfInBounds_toArray, List.set_cons_zero, List.set_cons_succ])
        | ((with_reducible refine at_slot 18 ?_); (refine arm_want (.bool false) 18 rfl (by kernel_rfl) (run_op_eqlM K.out HK.out _ _ _ rfl rfl rfl false (iff_of_false Bool.false_ne_true HTT.out) _) ?_); try simp only [Act.put, List.setIfInBounds_toArray, List.set_cons_zero, List.set_cons_succ]))
      have hbv1 := nv1.below
      have rrv1 : Row v1 X 42 (mcs m) := hv1
      have geX : w.heap.size ≤ X := by have := Xe.out; omega
      clear hv1 nv1 Xe
      have bel_2 : Below w.heap.size w v1 := hbv1
      clear hbv1
      go_ret
      exact ⟨rfl, bel_2⟩
  by_cases hq3 : q = 3
  · clear hq1 hq2
    rename q = 3 => hq1
    have e1 : ((q : Int) == 1) = false := by simp; omega
    have e2 : ((q : Int) == 2) = false := by simp; omega
    have e3 : ((q : Int) == 3) = true := by simp [hq1]
    have e4 : ((q : Int) == 4) = false := by simp; omega
    have HE := Lib.hid (bool_iff HB.out (H3.out hq1))
    clear H1 H2 H3 H4 H0 HB HT HF hq1
    generalize mrB m = b at HE ⊢
    go_enter Try.func12, Try.ntmps12
    go_wp2_with (first
      | ((with_reducible refine at_slot 1 ?_); (refine arm_box (o := ⟨some 1, _, _, _, _, _⟩) rfl _ _ rfl (mcs m) rfl ?_); intro X v1 Xe hv1 nv1; try simp only [Act.put, List.setIfInBounds_toArray, List.set_cons_zero, List.set_cons_succ])
      | ((with_reducible refine at_slot 4 ?_); (refine arm_want (.int .u8 (q : Int)) 4 rfl (by kernel_rfl) (run_op_load1 _ _ rfl (.int .u8) (by kernel_rfl) rfl ⟨X, 0, none⟩ rfl (.int .u8 (q : Int)) (hv1.cell CK.out)) ?_); try simp only [Act.put, List.setIfInBounds_toArray, List.set_cons_zero, List.set_cons_succ])
      | ((with_reducible refine at_slot 26 ?_); (refine arm_load (o := ⟨some 26, _, _, _, _, _⟩) rfl _ _ rfl X 0 rfl (mcs m) ((Has.refl _).range hv1) SM.out ?_); try simp only [Act.put, List.setIfInBounds_toArray, List.set_cons_zero, List.set_cons_succ])
      | ((with_reducible refine at_slot 27 ?_); (refine arm_build (o := ⟨some 27, _, _, _, _, _⟩) rfl _ _ rfl (mcs leave) (by simp only [List.map_toArray, List.map_cons, List.map_nil]; exact built_ml) ?_); try simp only [Act.put, List.setIfInBounds_toArray, List.set_cons_zero, List.set_cons_succ])
      | ((with_reducible refine at_slot 28 ?_); (refine arm_want (.bool b) 28 rfl (by kernel_rfl) (run_op_eqlM K.out leave_ok _ _ _ rfl rfl rfl b HE.out _) ?_); try simp only [Act.put, List.setIfInBounds_toArray, List.set_cons_zero, List.set_cons_succ]))
    have hbv1 := nv1.below
    have rrv1 : Row v1 X 42 (mcs m) := hv1
    have geX : w.heap.size ≤ X := by have := Xe.out; omega
    clear hv1 nv1 Xe
    have bel_2 : Below w.heap.size w v1 := hbv1
    clear hbv1
    go_ret
    exact ⟨rfl, bel_2⟩
  by_cases hq4 : q = 4
  · clear hq1 hq2 hq3
    rename q = 4 => hq1
    have e1 : ((q : Int) == 1) = false := by simp; omega
    have e2 : ((q : Int) == 2) = false := by simp; omega
    have e3 : ((q : Int) == 3) = false := by simp; omega
    have e4 : ((q : Int) == 4) = true := by simp [hq1]
    have HE := Lib.hid (H4.out hq1)
    have HK := Lib.hid (shownI_ok K.out)
    clear H1 H2 H3 H4 H0 HB hq1
    by_cases ht : m = shownI m.pl m.acc m.path
    · by_cases hp : 0 ≤ m.pl ∧ m.pl < 16
      · have HR : Hid (mrB m = decide (NRt m.acc.nm)) := Lib.hid (by
            by_cases hn : NRt m.acc.nm
            · rw [HT.out (HE.out.2 ⟨ht, hp, hn⟩), decide_eq_true hn]
            · rw [HF.out (fun h => hn (HE.out.1 h).2.2), decide_eq_false hn])
        rw [HR.out]
        have CR := Lib.hid (fun w0 => aright_any m.acc w0)
        have CT : Hid (∀ w0, Calls Try.prog 34 #[.int .i64 m.pl] w0 fun e w' => e = .returned (.bool true) ∧ w0 = w') := Lib.hid fun w0 => (there17_any m.pl w0).mono fun e w' h => ⟨by rw [h.1, decide_eq_true hp], h.2⟩
        have HTT : Hid (m = shownI m.pl m.acc m.path) := Lib.hid ht
        clear ht hp HE HT HF
        generalize decide (NRt m.acc.nm) = b at CR ⊢
        go_enter Try.func12, Try.ntmps12
        go_wp2_with (first
          | ((with_reducible refine at_slot 1 ?_); (refine arm_box (o := ⟨some 1, _, _, _, _, _⟩) rfl _ _ rfl (mcs m) rfl ?_); intro X v1 Xe hv1 nv1; try simp only [Act.put, List.setIfInBounds_toArray, List.set_cons_zero, List.set_cons_succ])
          | ((with_reducible refine at_slot 4 ?_); (refine arm_want (.int .u8 (q : Int)) 4 rfl (by kernel_rfl) (run_op_load1 _ _ rfl (.int .u8) (by kernel_rfl) rfl ⟨X, 0, none⟩ rfl (.int .u8 (q : Int)) (hv1.cell CK.out)) ?_); try simp only [Act.put, List.setIfInBounds_toArray, List.set_cons_zero, List.set_cons_succ])
          | ((with_reducible refine at_slot 31 ?_); (refine arm_load (o := ⟨some 31, _, _, _, _, _⟩) rfl _ _ rfl X 0 rfl (mcs m) ((Has.refl _).range hv1) SM.out ?_); try simp only [Act.put, List.setIfInBounds_toArray, List.set_cons_zero, List.set_cons_succ])
          | ((with_reducible refine at_slot 33 ?_); (refine arm_want (.int .i64 m.pl) 33 rfl (by kernel_rfl) (run_op_load1 _ _ rfl (.int .i64) (by kernel_rfl) rfl ⟨X, 365, none⟩ rfl (.int .i64 m.pl) (hv1.cell CP.out)) ?_); try simp only [Act.put, List.setIfInBounds_toArray, List.set_cons_zero, List.set_cons_succ])
          | ((with_reducible refine at_slot 35 ?_); (refine arm_load (o := ⟨some 35, _, _, _, _, _⟩) rfl _ _ rfl X 366 rfl (acs m.acc) (HA.out.range hv1) (sz_acc _) ?_); try simp only [Act.put, List.setIfInBounds_toArray, List.set_cons_zero, List.set_cons_succ])
          | ((with_reducible refine at_slot 37 ?_); (refine arm_load (o := ⟨some 37, _, _, _, _, _⟩) rfl _ _ rfl X 369 rfl (dgC m.path) (HP.out.range hv1) SP.out ?_); try simp only [Act.put, List.setIfInBounds_toArray, List.set_cons_zero, List.set_cons_succ])
          | ((with_reducible refine at_slot 38 ?_); (refine arm_build (o := ⟨some 38, _, _, _, _, _⟩) rfl _ _ rfl (mcs (shownI m.pl m.acc m.path)) (by simp only [List.map_toArray, List.map_cons, List.map_nil]; exact built_ms K.out.lo K.out.hi K.out.acc K.out.path) ?_); try simp only [Act.put, List.setIfInBounds_toArray, List.set_cons_zero, List.set_cons_succ])
          | ((with_reducible refine at_slot 39 ?_); (refine arm_want (.bool true) 39 rfl (by kernel_rfl) (run_op_eqlM K.out HK.out _ _ _ rfl rfl rfl true (iff_of_true rfl HTT.out) _) ?_); try simp only [Act.put, List.setIfInBounds_toArray, List.set_cons_zero, List.set_cons_succ])
          | ((with_reducible refine at_slot 42 ?_); (refine arm_want (.int .i64 m.pl) 42 rfl (by kernel_rfl) (run_op_load1 _ _ rfl (.int .i64) (by kernel_rfl) rfl ⟨X, 365, none⟩ rfl (.int .i64 m.pl) (hv1.cell CP.out)) ?_); try simp only [Act.put, List.setIfInBounds_toArray, List.set_cons_zero, List.set_cons_succ]))
        have hbv1 := nv1.below
        have rrv1 : Row v1 X 42 (mcs m) := hv1
        have geX : w.heap.size ≤ X := by have := Xe.out; omega
        clear hv1 nv1 Xe
        have bel_2 : Below w.heap.size w v1 := hbv1
        clear hbv1
        refine (CT.out _).mono ?_
        rintro e z3 ⟨rfl, rfl⟩
        have ca0 := rrv1.cell CA0.out; have ca1 := rrv1.cell CA1.out; have ca2 := rrv1.cell CA2.out
        go_wp2_with fail
        clear ca0 ca1 ca2
        refine (CR.out _).mono ?_
        rintro e y4 ⟨rfl, hB⟩
        have X_5 : Row y4 X 42 (mcs m) := rrv1.old hB
        have bel_5 : Below w.heap.size w y4 := below_step bel_2 bel_2.size hB
        clear rrv1 bel_2 hB
        go_wp2_with fail
        go_ret
        exact ⟨rfl, bel_5⟩
      · have HR : Hid (mrB m = false) := Lib.hid (HF.out (fun h => hp (HE.out.1 h).2.1))
        rw [HR.out]
        have CT : Hid (∀ w0, Calls Try.prog 34 #[.int .i64 m.pl] w0 fun e w' => e = .returned (.bool false) ∧ w0 = w') := Lib.hid fun w0 => (there17_any m.pl w0).mono fun e w' h => ⟨by rw [h.1, decide_eq_false hp], h.2⟩
        have HTT : Hid (m = shownI m.pl m.acc m.path) := Lib.hid ht
        clear ht hp HE HT HF
        go_enter Try.func12, Try.ntmps12
        go_wp2_with (first
          | ((with_reducible refine at_slot 1 ?_); (refine arm_box (o := ⟨some 1, _, _, _, _, _⟩) rfl _ _ rfl (mcs m) rfl ?_); intro X v1 Xe hv1 nv1; try simp only [Act.put, List.setIfInBounds_toArray, List.set_cons_zero, List.set_cons_succ])
          | ((with_reducible refine at_slot 4 ?_); (refine arm_want (.int .u8 (q : Int)) 4 rfl (by kernel_rfl) (run_op_load1 _ _ rfl (.int .u8) (by kernel_rfl) rfl ⟨X, 0, none⟩ rfl (.int .u8 (q : Int)) (hv1.cell CK.out)) ?_); try simp only [Act.put, List.setIfInBounds_toArray, List.set_cons_zero, List.set_cons_succ])
          | ((with_reducible refine at_slot 31 ?_); (refine arm_load (o := ⟨some 31, _, _, _, _, _⟩) rfl _ _ rfl X 0 rfl (mcs m) ((Has.refl _).range hv1) SM.out ?_); try simp only [Act.put, List.setIfInBounds_toArray, List.set_cons_zero, List.set_cons_succ])
          | ((with_reducible refine at_slot 33 ?_); (refine arm_want (.int .i64 m.pl) 33 rfl (by kernel_rfl) (run_op_load1 _ _ rfl (.int .i64) (by kernel_rfl) rfl ⟨X, 365, none⟩ rfl (.int .i64 m.pl) (hv1.cell CP.out)) ?_); try simp only [Act.put, List.setIfInBounds_toArray, List.set_cons_zero, List.set_cons_succ])
          | ((with_reducible refine at_slot 35 ?_); (refine arm_load (o := ⟨some 35, _, _, _, _, _⟩) rfl _ _ rfl X 366 rfl (acs m.acc) (HA.out.range hv1) (sz_acc _) ?_); try simp only [Act.put, List.setIfInBounds_toArray, List.set_cons_zero, List.set_cons_succ])
          | ((with_reducible refine at_slot 37 ?_); (refine arm_load (o := ⟨some 37, _, _, _, _, _⟩) rfl _ _ rfl X 369 rfl (dgC m.path) (HP.out.range hv1) SP.out ?_); try simp only [Act.put, List.setIfInBounds_toArray, List.set_cons_zero, List.set_cons_succ])
          | ((with_reducible refine at_slot 38 ?_); (refine arm_build (o := ⟨some 38, _, _, _, _, _⟩) rfl _ _ rfl (mcs (shownI m.pl m.acc m.path)) (by simp only [List.map_toArray, List.map_cons, List.map_nil]; exact built_ms K.out.lo K.out.hi K.out.acc K.out.path) ?_); try simp only [Act.put, List.setIfInBounds_toArray, List.set_cons_zero, List.set_cons_succ])
          | ((with_reducible refine at_slot 39 ?_); (refine arm_want (.bool true) 39 rfl (by kernel_rfl) (run_op_eqlM K.out HK.out _ _ _ rfl rfl rfl true (iff_of_true rfl HTT.out) _) ?_); try simp only [Act.put, List.setIfInBounds_toArray, List.set_cons_zero, List.set_cons_succ])
          | ((with_reducible refine at_slot 42 ?_); (refine arm_want (.int .i64 m.pl) 42 rfl (by kernel_rfl) (run_op_load1 _ _ rfl (.int .i64) (by kernel_rfl) rfl ⟨X, 365, none⟩ rfl (.int .i64 m.pl) (hv1.cell CP.out)) ?_); try simp only [Act.put, List.setIfInBounds_toArray, List.set_cons_zero, List.set_cons_succ]))
        have hbv1 := nv1.below
        have rrv1 : Row v1 X 42 (mcs m) := hv1
        have geX : w.heap.size ≤ X := by have := Xe.out; omega
        clear hv1 nv1 Xe
        have bel_2 : Below w.heap.size w v1 := hbv1
        clear hbv1
        refine (CT.out _).mono ?_
        rintro e z3 ⟨rfl, rfl⟩
        go_wp2_with fail
        go_ret
        exact ⟨rfl, bel_2⟩
    · have HR : Hid (mrB m = false) := Lib.hid (HF.out (fun h => ht (HE.out.1 h).1))
      rw [HR.out]
      have HTT : Hid (¬ m = shownI m.pl m.acc m.path) := Lib.hid ht
      clear ht HE HT HF
      go_enter Try.func12, Try.ntmps12
      go_wp2_with (first
        | ((with_reducible refine at_slot 1 ?_); (refine arm_box (o := ⟨some 1, _, _, _, _, _⟩) rfl _ _ rfl (mcs m) rfl ?_); intro X v1 Xe hv1 nv1; try simp only [Act.put, List.setIfInBounds_toArray, List.set_cons_zero, List.set_cons_succ])
        | ((with_reducible refine at_slot 4 ?_); (refine arm_want (.int .u8 (q : Int)) 4 rfl (by kernel_rfl) (run_op_load1 _ _ rfl (.int .u8) (by kernel_rfl) rfl ⟨X, 0, none⟩ rfl (.int .u8 (q : Int)) (hv1.cell CK.out)) ?_); try simp only [Act.put, List.setIfInBounds_toArray, List.set_cons_zero, List.set_cons_succ])
        | ((with_reducible refine at_slot 31 ?_); (refine arm_load (o := ⟨some 31, _, _, _, _, _⟩) rfl _ _ rfl X 0 rfl (mcs m) ((Has.refl _).range hv1) SM.out ?_); try simp only [Act.put, List.setIfInBounds_toArray, List.set_cons_zero, List.set_cons_succ])
        | ((with_reducible refine at_slot 33 ?_); (refine arm_want (.int .i64 m.pl) 33 rfl (by kernel_rfl) (run_op_load1 _ _ rfl (.int .i64) (by kernel_rfl) rfl ⟨X, 365, none⟩ rfl (.int .i64 m.pl) (hv1.cell CP.out)) ?_); try simp only [Act.put, List.setIfInBounds_toArray, List.set_cons_zero, List.set_cons_succ])
        | ((with_reducible refine at_slot 35 ?_); (refine arm_load (o := ⟨some 35, _, _, _, _, _⟩) rfl _ _ rfl X 366 rfl (acs m.acc) (HA.out.range hv1) (sz_acc _) ?_); try simp only [Act.put, List.setIfInBounds_toArray, List.set_cons_zero, List.set_cons_succ])
        | ((with_reducible refine at_slot 37 ?_); (refine arm_load (o := ⟨some 37, _, _, _, _, _⟩) rfl _ _ rfl X 369 rfl (dgC m.path) (HP.out.range hv1) SP.out ?_); try simp only [Act.put, List.setIfInBounds_toArray, List.set_cons_zero, List.set_cons_succ])
        | ((with_reducible refine at_slot 38 ?_); (refine arm_build (o := ⟨some 38, _, _, _, _, _⟩) rfl _ _ rfl (mcs (shownI m.pl m.acc m.path)) (by simp only [List.map_toArray, List.map_cons, List.map_nil]; exact built_ms K.out.lo K.out.hi K.out.acc K.out.path) ?_); try simp only [Act.put, List.setIfInBounds_toArray, List.set_cons_zero, List.set_cons_succ])
        | ((with_reducible refine at_slot 39 ?_); (refine arm_want (.bool false) 39 rfl (by kernel_rfl) (run_op_eqlM K.out HK.out _ _ _ rfl rfl rfl false (iff_of_false Bool.false_ne_true HTT.out) _) ?_); try simp only [Act.put, List.setIfInBounds_toArray, List.set_cons_zero, List.set_cons_succ]))
      have hbv1 := nv1.below
      have rrv1 : Row v1 X 42 (mcs m) := hv1
      have geX : w.heap.size ≤ X := by have := Xe.out; omega
      clear hv1 nv1 Xe
      have bel_2 : Below w.heap.size w v1 := hbv1
      clear hbv1
      go_ret
      exact ⟨rfl, bel_2⟩
  have HR : Hid (mrB m = false) := Lib.hid (HF.out (H0.out (by omega)))
  rw [HR.out]
  have e1 : ((q : Int) == 1) = false := by simp; omega
  have e2 : ((q : Int) == 2) = false := by simp; omega
  have e3 : ((q : Int) == 3) = false := by simp; omega
  have e4 : ((q : Int) == 4) = false := by simp; omega
  clear H1 H2 H3 H4 H0 HB HT HF hq1 hq2 hq3 hq4
  go_enter Try.func12, Try.ntmps12
  go_wp2_with (first
    | ((with_reducible refine at_slot 1 ?_); (refine arm_box (o := ⟨some 1, _, _, _, _, _⟩) rfl _ _ rfl (mcs m) rfl ?_); intro X v1 Xe hv1 nv1; try simp only [Act.put, List.setIfInBounds_toArray, List.set_cons_zero, List.set_cons_succ])
    | ((with_reducible refine at_slot 4 ?_); (refine arm_want (.int .u8 (q : Int)) 4 rfl (by kernel_rfl) (run_op_load1 _ _ rfl (.int .u8) (by kernel_rfl) rfl ⟨X, 0, none⟩ rfl (.int .u8 (q : Int)) (hv1.cell CK.out)) ?_); try simp only [Act.put, List.setIfInBounds_toArray, List.set_cons_zero, List.set_cons_succ]))
  have hbv1 := nv1.below
  have rrv1 : Row v1 X 42 (mcs m) := hv1
  have geX : w.heap.size ≤ X := by have := Xe.out; omega
  clear hv1 nv1 Xe
  have bel_2 : Below w.heap.size w v1 := hbv1
  clear hbv1
  go_ret
  exact ⟨rfl, bel_2⟩
end Go.Proofs.Ytghogoijjaiccaa.Ms
