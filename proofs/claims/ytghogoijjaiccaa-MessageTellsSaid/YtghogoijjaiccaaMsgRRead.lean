/-
  The contract of the document's Read of layer 17. Over this seat's translation.
-/
import Derived.Test.YtghogoijjaiccaaMsgShow
import Derived.Test.YtghogoijjaiccaaMsgDo
import Derived.Test.YtghogoijjaiccaaStaRRead
namespace Go.Proofs.Ytghogoijjaiccaa.Ms
open Go.ChangeShapes Go.WideShapes Go.ChangeAt Go.RowKit Go.Proofs.Ytghogoijjaiccaa.Mem Go.Proofs.Ytghogoijjaiccaa.Bt Go.Proofs.Ytghogoijjaiccaa.Wi Go.Proofs.Ytghogoijjaiccaa.Ac Go.Proofs.Ytghogoijjaiccaa.Tr Go.Proofs.Ytghogoijjaiccaa.Pf
open Go.Proofs.Ytghogoijjaiccaa.Tg (bytesOf bytesOf_length bytesOf_lt bytesOf_inj Rd Rd.below)
open Go.Proofs.Ytghogoijjaiccaa.Ep (H32 zh zh_ok Has Has.refl Has.left Has.right Has.head Has.get Has.chunk Has.range h_len szH zH fitH allH one_app num32)
open Go.Proofs.Ytghogoijjaiccaa.Sa (Sta scs scs_len scs_one zs zs_ok scs_app staB staB_len SRt rdS rdS_ok sz_sta z_sta sz_rsta z_rsta fitS allS)
set_option linter.unusedVariables false
set_option linter.unusedSimpArgs false

set_option maxHeartbeats 4000000 in
set_option maxRecDepth 100000 in
theorem rmread_one (x : Nat) (r : List Nat) (p : Option Addr) (cap : Nat) (w : World) (hc : Bt.Came w p cap (x :: r)) (hl : r.length ≤ 599) (n : Nat) (hn : n = r.length + 1) :
    Calls Try.prog 11 #[.slice p n cap] w (MReadPost w (x :: r)) := by
  obtain ⟨g, o, rfl, hr⟩ := hc.at_ (by simp)
  have hx : x < 256 := hc.lt_ x (by simp)
  have HC0 : Hid (∀ w', Below w.heap.size w w' → w'.cell? ⟨g, o + 0, none⟩ = some (.int .u8 (x : Int))) := Lib.hid fun w' hb => cell_below (b := x :: r) (i := 0) hr (by simp) hb
  have hT := hc.tail (m := 1) (by simp)
  have HLTB : Hid (AllLt 256 r) := Lib.hid (fun y hy => hc.lt_ y (by simp [hy]))
  have HLB : Hid (r.length ≤ 1000) := Lib.hid (by omega)
  have HCP : Hid (r.length ≤ cap - 1) := Lib.hid (by have h2 := hT.cap_; simp only [List.drop_succ_cons, List.drop_zero] at h2; exact h2)
  have HN : Hid (onP (some ⟨g, o, none⟩) 1 cap = none → cap - 1 = 0) := Lib.hid hT.nil_
  have HP : Hid (Rd w (onP (some ⟨g, o, none⟩) 1 cap) r) := Lib.hid ⟨hT.at_⟩
  have HLOW := Lib.hid (low_of HP.out)
  have HRD := Lib.hid (rd_cons (x := x) hl)
  have HN0 : Hid (0 < n) := Lib.hid (by omega)
  have HN1 : Hid (1 ≤ n) := Lib.hid (by omega)
  have HNR : Hid (n - 1 = r.length) := Lib.hid (by omega)
  have d1 : decide ((600 : Int) < (n : Int)) = false := decide_eq_false (by omega)
  have d2 : ((n : Int) == 0) = false := by simp; omega
  have KX := Lib.hid hx
  obtain ⟨pq, hpq⟩ : ∃ z, z = onP (some ⟨g, o, none⟩) 1 cap := ⟨_, rfl⟩
  rw [← hpq] at HN HP HLOW
  have HPQ := Lib.hid hpq
  by_cases h1 : x = 1
  · skip
    have e1 : ((x : Int) == 1) = true := by rw [h1]; rfl
    have e2 : ((x : Int) == 2) = false := by simp; omega
    have e3 : ((x : Int) == 3) = false := by simp; omega
    have e4 : ((x : Int) == 4) = false := by simp; omega
    have HR : Hid (rdM (x :: r) = rdH r) := Lib.hid (by rw [HRD.out, h1, rdK1])
    have HV := Lib.hid (q4_lt HLTB.out)
    have HRE := Lib.hid (rdH_e r); have HRM := Lib.hid (@rdH_m r)
    have HWR0 : Hid ((rdM (x :: r)).2 ≠ 0 → (rdM (x :: r)).1 = zm) := Lib.hid rd_wrong
    rw [HR.out] at HWR0
    have CB : Hid (∀ R d w0, RfAt w0 R d (r, 0) → Calls Try.prog 29 #[.pointer (some ⟨R, 0, none⟩), .int .i64 4] w0 (RfPost w0 R d (.int .u64 ((q4 r).1 : Int)) (q4 r).2)) := Lib.hid fun R d w0 h => fNumber_any 4 R d (r, 0) w0 h (by omega)
    have CE : Hid (∀ R d w0, RfAt w0 R d (q4 r).2 → Calls Try.prog 30 #[.pointer (some ⟨R, 0, none⟩)] w0 fun e w' => e = .returned (.int .i64 (endR (q4 r).2 : Int)) ∧ Below w0.heap.size w0 w') := Lib.hid fun R d w0 h => fEnd_any R d (q4 r).2 w0 h
    rw [← HRE.out] at CE
    obtain ⟨v, hv⟩ : ∃ x, x = (q4 r).1 := ⟨_, rfl⟩
    obtain ⟨s1, hs1⟩ : ∃ x, x = (q4 r).2 := ⟨_, rfl⟩
    obtain ⟨ee, hee⟩ : ∃ x, x = (rdH r).2 := ⟨_, rfl⟩
    rw [← hv] at CB HRM HV
    rw [← hs1] at CB CE
    rw [← hee] at CE HRM HWR0
    have HEE := Lib.hid hee
    have HWV : Hid (IntKind.u32.wrap (v : Int) = (v : Int)) := Lib.hid (by have := HV.out; rw [IntKind.wrap_u32]; omega)
    have HHO := Lib.hid (hello_ok HV.out)
    clear hv hs1 hee h1 HRD HRE
    clear hc hr hT hx hn hl hpq
    go_enter Try.func11, Try.ntmps11
    go_wp2_with (first
      | ((with_reducible refine at_slot 2 ?_); (refine arm_alloc (o := ⟨some 2, _, _, _, _, _⟩) rfl _ rfl (mcs zm) z_rmsg ?_); intro Z v1 Ze hv1 nv1; try simp only [Act.put, List.setIfInBounds_toArray, List.set_cons_zero, List.set_cons_succ])
      | ((with_reducible refine at_slot 17 ?_); (refine Pf.pause ?_); try simp only [Act.put, List.setIfInBounds_toArray, List.set_cons_zero, List.set_cons_succ]))
    have hbv1 := nv1.below
    have rrv1 : Row v1 Z 59 (mcs zm) := hv1
    have geZ : w.heap.size ≤ Z := by have := Ze.out; omega
    have lZx : w.heap.size ≤ Z := by have := Ze.out; omega
    clear hv1 nv1 Ze
    have bel_2 : Below w.heap.size w v1 := hbv1
    clear hbv1
    refine Pf.go_on ?_
    have lzZ := rrv1.lt
    go_wp2_with (first
      | ((with_reducible refine at_slot 24 ?_); (refine arm_box (o := ⟨some 24, _, _, _, _, _⟩) rfl _ _ rfl (fcells pq r.length (cap - 1) 0 0) rfl ?_); intro R v3 Re hv3 nv3; try simp only [Act.put, List.setIfInBounds_toArray, List.set_cons_zero, List.set_cons_succ])
      | ((with_reducible refine at_slot 17 ?_); (refine arm_want (.pointer (some ⟨g, o + 0, none⟩)) 17 rfl (by kernel_rfl) (run_op_idxS _ _ _ rfl 5 (by kernel_rfl) (by kernel_rfl) g o n cap rfl .i64 _ rfl 0 rfl HN0.out _) ?_); try simp only [Act.put, List.setIfInBounds_toArray, List.set_cons_zero, List.set_cons_succ])
      | ((with_reducible refine at_slot 18 ?_); (refine arm_want (.int .u8 (x : Int)) 18 rfl (by kernel_rfl) (run_op_load8 _ rfl ⟨g, o + 0, none⟩ rfl _ (HC0.out _ bel_2)) ?_); try simp only [Act.put, List.setIfInBounds_toArray, List.set_cons_zero, List.set_cons_succ])
      | ((with_reducible refine at_slot 22 ?_); (refine arm_tail (o := ⟨some 22, _, _, _, _, _⟩) rfl _ _ _ rfl 5 (by kernel_rfl) (by kernel_rfl) (some ⟨g, o, none⟩) n cap rfl .i64 _ rfl 1 rfl HN1.out ?_); rw [HNR.out, ← HPQ.out]; try simp only [Act.put, List.setIfInBounds_toArray, List.set_cons_zero, List.set_cons_succ])
      | ((with_reducible refine at_slot 23 ?_); (refine arm_build (o := ⟨some 23, _, _, _, _, _⟩) rfl _ _ rfl (fcells pq r.length (cap - 1) 0 0) (by simp only [List.map_toArray, List.map_cons, List.map_nil]; exact built_rd _ _ _) ?_); try simp only [Act.put, List.setIfInBounds_toArray, List.set_cons_zero, List.set_cons_succ]))
    have hbv3 := nv3.below
    have rrv3 : Row v3 R 91 (fcells pq r.length (cap - 1) 0 0) := hv3
    have geR : w.heap.size ≤ R := by have := Re.out; have := bel_2.size; omega
    have lRx : v1.heap.size ≤ R := by have := Re.out; omega
    clear hv3 nv3 Re
    have Z_4 : Row v3 Z 59 (mcs zm) := rrv1.old hbv3
    have bel_4 : Below w.heap.size w v3 := below_step bel_2 bel_2.size hbv3
    clear rrv1 bel_2 hbv3
    have neZR : Z ≠ R := Nat.ne_of_lt (Nat.lt_of_lt_of_le lzZ lRx)
    have hA0 : RfAt v3 R w.heap.size (r, 0) := ⟨pq, (cap - 1), r, 0, 0, ⟨rrv3, HP.out.below bel_4, HCP.out, HN.out, HLTB.out, Nat.zero_le _, HLOW.out, bel_4.size⟩, by rw [absR_ok, List.drop_zero], by have := HLB.out; omega⟩
    clear rrv3
    refine (CB.out R _ _ hA0).mono ?_
    rintro e y5 ⟨rfl, hA, hO⟩
    have Z_6 : Row y5 Z 59 (mcs zm) := Z_4.only hO neZR
    have R_6 : RfAt y5 R w.heap.size s1 := hA
    have bel_6 : Below w.heap.size w y5 := below_only bel_4 hO geR bel_4.size
    clear Z_4 hA0 bel_4 hO
    go_wp2_with (first
      | ((with_reducible refine at_slot 27 ?_); (refine arm_want (.int .u32 (v : Int)) 27 rfl (by kernel_rfl) (run_op_conv17 _ _ _ rfl .u64 .u32 .u64 (by kernel_rfl) (by kernel_rfl) (v : Int) rfl (v : Int) HWV.out _) ?_); try simp only [Act.put, List.setIfInBounds_toArray, List.set_cons_zero, List.set_cons_succ]))
    by_cases he : ee = 0
    · have hz : ((ee : Int) != 0) = false := by rw [he]; rfl
      have HQ := Lib.hid (HRM.out he); have HE0 := Lib.hid he; clear he HRM HWR0
      refine (CE.out R _ _ R_6).mono ?_
      rintro e y7 ⟨rfl, hB⟩
      have Z_8 : Row y7 Z 59 (mcs zm) := Z_6.old hB
      have R_8 : RfAt y7 R w.heap.size s1 := R_6.old hB
      have bel_8 : Below w.heap.size w y7 := below_step bel_6 bel_6.size hB
      clear Z_6 R_6 bel_6 hB
      go_wp2_with (first
        | ((with_reducible refine at_slot 35 ?_); (refine arm_build (o := ⟨some 35, _, _, _, _, _⟩) rfl _ _ rfl (mcs (hello v)) (by simp only [List.map_toArray, List.map_cons, List.map_nil]; exact built_rh _) ?_); try simp only [Act.put, List.setIfInBounds_toArray, List.set_cons_zero, List.set_cons_succ])
        | ((with_reducible refine arm_store (o := ⟨none, _, _, _, _, _⟩) rfl _ _ _ rfl Z 0 rfl (mcs (hello v)) rfl _ _ (Z_8) (fitM HHO.out) (mcs_one _) (sz_rmsg HHO.out) ?_); intro y9 hy9 oy9 sy9; try simp only [Act.put, List.setIfInBounds_toArray, List.set_cons_zero, List.set_cons_succ]))
      exact bodyPost_ret (result_row2 (p := 2) (u := 3) (ty := 59) (t := 59) (by kernel_rfl) _ _ Z (mcs (hello v)) (.int .i64 0) rfl rfl (hy9.congr (allM HHO.out)) (sz_rmsg HHO.out)) rfl ⟨by rw [HR.out, ← HEE.out, HQ.out, HE0.out]; rfl, below_only bel_8 oy9 geZ bel_8.size⟩
    · have hz : ((ee : Int) != 0) = true := by simp; omega
      have HQ := Lib.hid (HWR0.out he); clear he HRM HWR0
      obtain ⟨z, hzz⟩ : ∃ z : Int, z = (ee : Int) := ⟨_, rfl⟩
      rw [← hzz] at hz CE
      have HZZ := Lib.hid hzz
      clear hzz
      refine (CE.out R _ _ R_6).mono ?_
      rintro e y7 ⟨rfl, hB⟩
      have Z_8 : Row y7 Z 59 (mcs zm) := Z_6.old hB
      have R_8 : RfAt y7 R w.heap.size s1 := R_6.old hB
      have bel_8 : Below w.heap.size w y7 := below_step bel_6 bel_6.size hB
      clear Z_6 R_6 bel_6 hB
      go_wp2_with (first
        | ((with_reducible refine at_slot 31 ?_); (refine arm_build (o := ⟨some 31, _, _, _, _, _⟩) rfl _ _ rfl (mcs zm) (by simp only [List.map_toArray, List.map_nil]; exact built_r0) ?_); try simp only [Act.put, List.setIfInBounds_toArray, List.set_cons_zero, List.set_cons_succ]))
      refine (CE.out R _ _ R_8).mono ?_
      rintro e y9 ⟨rfl, hB⟩
      have Z_10 : Row y9 Z 59 (mcs zm) := Z_8.old hB
      have R_10 : RfAt y9 R w.heap.size s1 := R_8.old hB
      have bel_10 : Below w.heap.size w y9 := below_step bel_8 bel_8.size hB
      clear Z_8 R_8 bel_8 hB
      go_wp2_with (first
        | ((with_reducible refine arm_store (o := ⟨none, _, _, _, _, _⟩) rfl _ _ _ rfl Z 0 rfl (mcs zm) rfl _ _ (Z_10) (fitM zm_ok) (mcs_one _) (sz_rmsg zm_ok) ?_); intro y9 hy9 oy9 sy9; try simp only [Act.put, List.setIfInBounds_toArray, List.set_cons_zero, List.set_cons_succ]))
      exact bodyPost_ret (result_row2 (p := 2) (u := 3) (ty := 59) (t := 59) (by kernel_rfl) _ _ Z (mcs zm) (.int .i64 z) rfl rfl (hy9.congr (allM zm_ok)) (sz_rmsg zm_ok)) rfl ⟨by rw [HR.out, ← HEE.out, HQ.out, HZZ.out], below_only bel_10 oy9 geZ bel_10.size⟩
  by_cases h2 : x = 2
  · skip
    have e1 : ((x : Int) == 1) = false := by simp; omega
    have e2 : ((x : Int) == 2) = true := by rw [h2]; rfl
    have e3 : ((x : Int) == 3) = false := by simp; omega
    have e4 : ((x : Int) == 4) = false := by simp; omega
    have HR : Hid (rdM (x :: r) = rdT r) := Lib.hid (by rw [HRD.out, h2, rdK2])
    have HRM := Lib.hid (@rdT_m r)
    have HWR0 : Hid ((rdM (x :: r)).2 ≠ 0 → (rdM (x :: r)).1 = zm) := Lib.hid rd_wrong
    rw [HR.out] at HWR0
    have KS := Lib.hid (rdS_ok HLTB.out)
    have CS : Hid (∀ w0, Below w.heap.size w w0 → Calls Try.prog 31 #[.slice pq r.length (cap - 1)] w0 fun e w' => e = .returned (.tuple #[.agg (scs (rdS r).1).toArray, .int .i64 ((rdT r).2 : Int)]) ∧ Below w0.heap.size w0 w') := Lib.hid fun w0 hb => (Sa.rread_any r pq (cap - 1) w0 (HP.out.below hb) HCP.out HN.out (low_of (HP.out.below hb)) HLB.out HLTB.out).mono fun e w' h => ⟨by rw [rdT_e]; exact h.ret, h.bel⟩
    obtain ⟨s, hs⟩ : ∃ x, x = (rdS r).1 := ⟨_, rfl⟩
    obtain ⟨ee, hee⟩ : ∃ x, x = (rdT r).2 := ⟨_, rfl⟩
    rw [← hs] at CS HRM KS
    rw [← hee] at CS HRM HWR0
    have HEE := Lib.hid hee
    have HTO := Lib.hid (tip_ok KS.out); have SS := Lib.hid (sz_rsta KS.out)
    clear hs hee h2 h1 HRD
    clear hc hr hT hx hn hl hpq
    go_enter Try.func11, Try.ntmps11
    go_wp2_with (first
      | ((with_reducible refine at_slot 2 ?_); (refine arm_alloc (o := ⟨some 2, _, _, _, _, _⟩) rfl _ rfl (mcs zm) z_rmsg ?_); intro Z v1 Ze hv1 nv1; try simp only [Act.put, List.setIfInBounds_toArray, List.set_cons_zero, List.set_cons_succ])
      | ((with_reducible refine at_slot 17 ?_); (refine Pf.pause ?_); try simp only [Act.put, List.setIfInBounds_toArray, List.set_cons_zero, List.set_cons_succ]))
    have hbv1 := nv1.below
    have rrv1 : Row v1 Z 59 (mcs zm) := hv1
    have geZ : w.heap.size ≤ Z := by have := Ze.out; omega
    have lZx : w.heap.size ≤ Z := by have := Ze.out; omega
    clear hv1 nv1 Ze
    have bel_2 : Below w.heap.size w v1 := hbv1
    clear hbv1
    refine Pf.go_on ?_
    go_wp2_with (first
      | ((with_reducible refine at_slot 17 ?_); (refine arm_want (.pointer (some ⟨g, o + 0, none⟩)) 17 rfl (by kernel_rfl) (run_op_idxS _ _ _ rfl 5 (by kernel_rfl) (by kernel_rfl) g o n cap rfl .i64 _ rfl 0 rfl HN0.out _) ?_); try simp only [Act.put, List.setIfInBounds_toArray, List.set_cons_zero, List.set_cons_succ])
      | ((with_reducible refine at_slot 18 ?_); (refine arm_want (.int .u8 (x : Int)) 18 rfl (by kernel_rfl) (run_op_load8 _ rfl ⟨g, o + 0, none⟩ rfl _ (HC0.out _ bel_2)) ?_); try simp only [Act.put, List.setIfInBounds_toArray, List.set_cons_zero, List.set_cons_succ])
      | ((with_reducible refine at_slot 40 ?_); (refine arm_tail (o := ⟨some 40, _, _, _, _, _⟩) rfl _ _ _ rfl 5 (by kernel_rfl) (by kernel_rfl) (some ⟨g, o, none⟩) n cap rfl .i64 _ rfl 1 rfl HN1.out ?_); rw [HNR.out, ← HPQ.out]; try simp only [Act.put, List.setIfInBounds_toArray, List.set_cons_zero, List.set_cons_succ]))
    refine (CS.out _ bel_2).mono ?_
    rintro e y3 ⟨rfl, hB⟩
    have Z_4 : Row y3 Z 59 (mcs zm) := rrv1.old hB
    have bel_4 : Below w.heap.size w y3 := below_step bel_2 bel_2.size hB
    clear rrv1 bel_2 hB
    go_wp2_with (first
      | ((with_reducible refine at_slot 6 ?_); (refine arm_alloc (o := ⟨some 6, _, _, _, _, _⟩) rfl _ rfl (scs zs) z_rsta ?_); intro S v5a Se hSa nS; try simp only [Act.put, List.setIfInBounds_toArray, List.set_cons_zero, List.set_cons_succ])
      | ((with_reducible refine arm_store (o := ⟨none, _, _, _, _, _⟩) rfl _ _ _ rfl S 0 rfl (scs s) rfl _ _ hSa (fitS KS.out) (scs_one _) SS.out ?_); intro v5 hSb oS sS; try simp only [Act.put, List.setIfInBounds_toArray, List.set_cons_zero, List.set_cons_succ]; refine Pf.pause ?_; try simp only [Act.put, List.setIfInBounds_toArray, List.set_cons_zero, List.set_cons_succ]))
    have lS : y3.heap.size ≤ S := by have := Se.out; omega
    have bS : Below y3.heap.size y3 v5 := below_only nS.below oS lS nS.below.size
    have rrS : Row v5 S 56 (scs s) := hSb.congr (allS KS.out)
    have geS : w.heap.size ≤ S := Nat.le_trans bel_4.size lS
    have lSx := lS
    clear hSa hSb nS oS sS Se lS
    have Z_6 : Row v5 Z 59 (mcs zm) := Z_4.old bS
    have bel_6 : Below w.heap.size w v5 := below_step bel_4 bel_4.size bS
    clear Z_4 bel_4 bS
    refine Pf.go_on ?_
    by_cases he : ee = 0
    · have hz : ((ee : Int) != 0) = false := by rw [he]; rfl
      have HQ := Lib.hid (HRM.out he); have HE0 := Lib.hid he; clear he HRM HWR0
      go_wp2_with (first
        | ((with_reducible refine at_slot 48 ?_); (refine arm_load (o := ⟨some 48, _, _, _, _, _⟩) rfl _ _ rfl S 0 rfl (scs s) ((Has.refl _).range rrS) SS.out ?_); try simp only [Act.put, List.setIfInBounds_toArray, List.set_cons_zero, List.set_cons_succ])
        | ((with_reducible refine at_slot 49 ?_); (refine arm_build (o := ⟨some 49, _, _, _, _, _⟩) rfl _ _ rfl (mcs (tip s)) (by simp only [List.map_toArray, List.map_cons, List.map_nil]; exact built_rt KS.out) ?_); try simp only [Act.put, List.setIfInBounds_toArray, List.set_cons_zero, List.set_cons_succ])
        | ((with_reducible refine arm_store (o := ⟨none, _, _, _, _, _⟩) rfl _ _ _ rfl Z 0 rfl (mcs (tip s)) rfl _ _ (Z_6) (fitM HTO.out) (mcs_one _) (sz_rmsg HTO.out) ?_); intro y9 hy9 oy9 sy9; try simp only [Act.put, List.setIfInBounds_toArray, List.set_cons_zero, List.set_cons_succ]))
      exact bodyPost_ret (result_row2 (p := 2) (u := 3) (ty := 59) (t := 59) (by kernel_rfl) _ _ Z (mcs (tip s)) (.int .i64 0) rfl rfl (hy9.congr (allM HTO.out)) (sz_rmsg HTO.out)) rfl ⟨by rw [HR.out, ← HEE.out, HQ.out, HE0.out]; rfl, below_only bel_6 oy9 geZ bel_6.size⟩
    · have hz : ((ee : Int) != 0) = true := by simp; omega
      have HQ := Lib.hid (HWR0.out he); clear he HRM HWR0
      obtain ⟨z, hzz⟩ : ∃ z : Int, z = (ee : Int) := ⟨_, rfl⟩
      rw [← hzz] at hz ⊢
      have HZZ := Lib.hid hzz
      clear hzz
      go_wp2_with (first
        | ((with_reducible refine at_slot 46 ?_); (refine arm_build (o := ⟨some 46, _, _, _, _, _⟩) rfl _ _ rfl (mcs zm) (by simp only [List.map_toArray, List.map_nil]; exact built_r0) ?_); try simp only [Act.put, List.setIfInBounds_toArray, List.set_cons_zero, List.set_cons_succ])
        | ((with_reducible refine arm_store (o := ⟨none, _, _, _, _, _⟩) rfl _ _ _ rfl Z 0 rfl (mcs zm) rfl _ _ (Z_6) (fitM zm_ok) (mcs_one _) (sz_rmsg zm_ok) ?_); intro y9 hy9 oy9 sy9; try simp only [Act.put, List.setIfInBounds_toArray, List.set_cons_zero, List.set_cons_succ]))
      exact bodyPost_ret (result_row2 (p := 2) (u := 3) (ty := 59) (t := 59) (by kernel_rfl) _ _ Z (mcs zm) (.int .i64 z) rfl rfl (hy9.congr (allM zm_ok)) (sz_rmsg zm_ok)) rfl ⟨by rw [HR.out, ← HEE.out, HQ.out, HZZ.out], below_only bel_6 oy9 geZ bel_6.size⟩
  by_cases h3 : x = 3
  · skip
    have e1 : ((x : Int) == 1) = false := by simp; omega
    have e2 : ((x : Int) == 2) = false := by simp; omega
    have e3 : ((x : Int) == 3) = true := by rw [h3]; rfl
    have e4 : ((x : Int) == 4) = false := by simp; omega
    have HR : Hid (rdM (x :: r) = rdV r) := Lib.hid (by rw [HRD.out, h3, rdK3])
    by_cases hr0 : r = []
    · have HQ : Hid (rdV r = (leave, 0)) := Lib.hid (if_pos hr0)
      have d3 : decide ((1 : Int) < (n : Int)) = false := decide_eq_false (by rw [hn, hr0]; simp)
      clear h1 h2 h3 hr0 HRD
      clear hc hr hT hx hn hl hpq
      go_enter Try.func11, Try.ntmps11
      go_wp2_with (first
        | ((with_reducible refine at_slot 2 ?_); (refine arm_alloc (o := ⟨some 2, _, _, _, _, _⟩) rfl _ rfl (mcs zm) z_rmsg ?_); intro Z v1 Ze hv1 nv1; try simp only [Act.put, List.setIfInBounds_toArray, List.set_cons_zero, List.set_cons_succ])
        | ((with_reducible refine at_slot 17 ?_); (refine Pf.pause ?_); try simp only [Act.put, List.setIfInBounds_toArray, List.set_cons_zero, List.set_cons_succ]))
      have hbv1 := nv1.below
      have rrv1 : Row v1 Z 59 (mcs zm) := hv1
      have geZ : w.heap.size ≤ Z := by have := Ze.out; omega
      have lZx : w.heap.size ≤ Z := by have := Ze.out; omega
      clear hv1 nv1 Ze
      have bel_2 : Below w.heap.size w v1 := hbv1
      clear hbv1
      refine Pf.go_on ?_
      go_wp2_with (first
        | ((with_reducible refine at_slot 17 ?_); (refine arm_want (.pointer (some ⟨g, o + 0, none⟩)) 17 rfl (by kernel_rfl) (run_op_idxS _ _ _ rfl 5 (by kernel_rfl) (by kernel_rfl) g o n cap rfl .i64 _ rfl 0 rfl HN0.out _) ?_); try simp only [Act.put, List.setIfInBounds_toArray, List.set_cons_zero, List.set_cons_succ])
        | ((with_reducible refine at_slot 18 ?_); (refine arm_want (.int .u8 (x : Int)) 18 rfl (by kernel_rfl) (run_op_load8 _ rfl ⟨g, o + 0, none⟩ rfl _ (HC0.out _ bel_2)) ?_); try simp only [Act.put, List.setIfInBounds_toArray, List.set_cons_zero, List.set_cons_succ])
        | ((with_reducible refine at_slot 56 ?_); (refine arm_build (o := ⟨some 56, _, _, _, _, _⟩) rfl _ _ rfl (mcs leave) (by simp only [List.map_toArray, List.map_cons, List.map_nil]; exact built_rl) ?_); try simp only [Act.put, List.setIfInBounds_toArray, List.set_cons_zero, List.set_cons_succ])
        | ((with_reducible refine arm_store (o := ⟨none, _, _, _, _, _⟩) rfl _ _ _ rfl Z 0 rfl (mcs leave) rfl _ _ (rrv1) (fitM leave_ok) (mcs_one _) (sz_rmsg leave_ok) ?_); intro y9 hy9 oy9 sy9; try simp only [Act.put, List.setIfInBounds_toArray, List.set_cons_zero, List.set_cons_succ]))
      exact bodyPost_ret (result_row2 (p := 2) (u := 3) (ty := 59) (t := 59) (by kernel_rfl) _ _ Z (mcs leave) (.int .i64 0) rfl rfl (hy9.congr (allM leave_ok)) (sz_rmsg leave_ok)) rfl ⟨by rw [HR.out, HQ.out]; rfl, below_only bel_2 oy9 geZ bel_2.size⟩
    · have HQ : Hid (rdV r = (zm, 4)) := Lib.hid (if_neg hr0)
      have d3 : decide ((1 : Int) < (n : Int)) = true := decide_eq_true (by have := List.length_pos_iff.2 hr0; omega)
      clear h1 h2 h3 hr0 HRD
      clear hc hr hT hx hn hl hpq
      go_enter Try.func11, Try.ntmps11
      go_wp2_with (first
        | ((with_reducible refine at_slot 2 ?_); (refine arm_alloc (o := ⟨some 2, _, _, _, _, _⟩) rfl _ rfl (mcs zm) z_rmsg ?_); intro Z v1 Ze hv1 nv1; try simp only [Act.put, List.setIfInBounds_toArray, List.set_cons_zero, List.set_cons_succ])
        | ((with_reducible refine at_slot 17 ?_); (refine Pf.pause ?_); try simp only [Act.put, List.setIfInBounds_toArray, List.set_cons_zero, List.set_cons_succ]))
      have hbv1 := nv1.below
      have rrv1 : Row v1 Z 59 (mcs zm) := hv1
      have geZ : w.heap.size ≤ Z := by have := Ze.out; omega
      have lZx : w.heap.size ≤ Z := by have := Ze.out; omega
      clear hv1 nv1 Ze
      have bel_2 : Below w.heap.size w v1 := hbv1
      clear hbv1
      refine Pf.go_on ?_
      go_wp2_with (first
        | ((with_reducible refine at_slot 17 ?_); (refine arm_want (.pointer (some ⟨g, o + 0, none⟩)) 17 rfl (by kernel_rfl) (run_op_idxS _ _ _ rfl 5 (by kernel_rfl) (by kernel_rfl) g o n cap rfl .i64 _ rfl 0 rfl HN0.out _) ?_); try simp only [Act.put, List.setIfInBounds_toArray, List.set_cons_zero, List.set_cons_succ])
        | ((with_reducible refine at_slot 18 ?_); (refine arm_want (.int .u8 (x : Int)) 18 rfl (by kernel_rfl) (run_op_load8 _ rfl ⟨g, o + 0, none⟩ rfl _ (HC0.out _ bel_2)) ?_); try simp only [Act.put, List.setIfInBounds_toArray, List.set_cons_zero, List.set_cons_succ])
        | ((with_reducible refine at_slot 55 ?_); (refine arm_build (o := ⟨some 55, _, _, _, _, _⟩) rfl _ _ rfl (mcs zm) (by simp only [List.map_toArray, List.map_nil]; exact built_r0) ?_); try simp only [Act.put, List.setIfInBounds_toArray, List.set_cons_zero, List.set_cons_succ])
        | ((with_reducible refine arm_store (o := ⟨none, _, _, _, _, _⟩) rfl _ _ _ rfl Z 0 rfl (mcs zm) rfl _ _ (rrv1) (fitM zm_ok) (mcs_one _) (sz_rmsg zm_ok) ?_); intro y9 hy9 oy9 sy9; try simp only [Act.put, List.setIfInBounds_toArray, List.set_cons_zero, List.set_cons_succ]))
      exact bodyPost_ret (result_row2 (p := 2) (u := 3) (ty := 59) (t := 59) (by kernel_rfl) _ _ Z (mcs zm) (.int .i64 4) rfl rfl (hy9.congr (allM zm_ok)) (sz_rmsg zm_ok)) rfl ⟨by rw [HR.out, HQ.out]; rfl, below_only bel_2 oy9 geZ bel_2.size⟩
  by_cases h4 : x = 4
  · skip
    have e1 : ((x : Int) == 1) = false := by simp; omega
    have e2 : ((x : Int) == 2) = false := by simp; omega
    have e3 : ((x : Int) == 3) = false := by simp; omega
    have e4 : ((x : Int) == 4) = true := by rw [h4]; rfl
    have HR : Hid (rdM (x :: r) = rdW r) := Lib.hid (by rw [HRD.out, h4, rdK4])
    have KM : Hid ((rdM (x :: r)).1.Ok) := Lib.hid (rdM_ok hc.lt_)
    have CS : Hid (∀ w0, Below w.heap.size w w0 → Calls Try.prog 32 #[.slice pq r.length (cap - 1)] w0 (ShowPost w0 r)) := Lib.hid fun w0 hb => rshow_any r pq (cap - 1) w0 (HP.out.below hb) HCP.out HN.out HLB.out HLTB.out
    rw [HR.out] at KM
    have CS2 : Hid (∀ w0, Below w.heap.size w w0 → Calls Try.prog 32 #[.slice pq r.length (cap - 1)] w0 fun e w' => e = .returned (.tuple #[.agg (mcs (rdW r).1).toArray, .int .i64 ((rdW r).2 : Int)]) ∧ Below w0.heap.size w0 w') := Lib.hid fun w0 hb => (CS.out w0 hb).mono fun e w' h => ⟨h.ret, h.bel⟩
    obtain ⟨m, hm⟩ : ∃ x, x = (rdW r).1 := ⟨_, rfl⟩
    obtain ⟨ee, hee⟩ : ∃ x, x = (rdW r).2 := ⟨_, rfl⟩
    rw [← hm, ← hee] at CS2
    rw [← hm] at KM
    have HEE := Lib.hid hee; have HMM := Lib.hid hm
    clear hm hee h1 h2 h3 h4 HRD CS
    clear hc hr hT hx hn hl hpq
    go_enter Try.func11, Try.ntmps11
    go_wp2_with (first
      | ((with_reducible refine at_slot 2 ?_); (refine arm_alloc (o := ⟨some 2, _, _, _, _, _⟩) rfl _ rfl (mcs zm) z_rmsg ?_); intro Z v1 Ze hv1 nv1; try simp only [Act.put, List.setIfInBounds_toArray, List.set_cons_zero, List.set_cons_succ])
      | ((with_reducible refine at_slot 17 ?_); (refine Pf.pause ?_); try simp only [Act.put, List.setIfInBounds_toArray, List.set_cons_zero, List.set_cons_succ]))
    have hbv1 := nv1.below
    have rrv1 : Row v1 Z 59 (mcs zm) := hv1
    have geZ : w.heap.size ≤ Z := by have := Ze.out; omega
    have lZx : w.heap.size ≤ Z := by have := Ze.out; omega
    clear hv1 nv1 Ze
    have bel_2 : Below w.heap.size w v1 := hbv1
    clear hbv1
    refine Pf.go_on ?_
    go_wp2_with (first
      | ((with_reducible refine at_slot 17 ?_); (refine arm_want (.pointer (some ⟨g, o + 0, none⟩)) 17 rfl (by kernel_rfl) (run_op_idxS _ _ _ rfl 5 (by kernel_rfl) (by kernel_rfl) g o n cap rfl .i64 _ rfl 0 rfl HN0.out _) ?_); try simp only [Act.put, List.setIfInBounds_toArray, List.set_cons_zero, List.set_cons_succ])
      | ((with_reducible refine at_slot 18 ?_); (refine arm_want (.int .u8 (x : Int)) 18 rfl (by kernel_rfl) (run_op_load8 _ rfl ⟨g, o + 0, none⟩ rfl _ (HC0.out _ bel_2)) ?_); try simp only [Act.put, List.setIfInBounds_toArray, List.set_cons_zero, List.set_cons_succ])
      | ((with_reducible refine at_slot 60 ?_); (refine arm_tail (o := ⟨some 60, _, _, _, _, _⟩) rfl _ _ _ rfl 5 (by kernel_rfl) (by kernel_rfl) (some ⟨g, o, none⟩) n cap rfl .i64 _ rfl 1 rfl HN1.out ?_); rw [HNR.out, ← HPQ.out]; try simp only [Act.put, List.setIfInBounds_toArray, List.set_cons_zero, List.set_cons_succ]))
    refine (CS2.out _ bel_2).mono ?_
    rintro e y3 ⟨rfl, hB⟩
    have Z_4 : Row y3 Z 59 (mcs zm) := rrv1.old hB
    have bel_4 : Below w.heap.size w y3 := below_step bel_2 bel_2.size hB
    clear rrv1 bel_2 hB
    go_wp2_with (first
      | ((with_reducible refine arm_store (o := ⟨none, _, _, _, _, _⟩) rfl _ _ _ rfl Z 0 rfl (mcs m) rfl _ _ (Z_4) (fitM KM.out) (mcs_one _) (sz_rmsg KM.out) ?_); intro y9 hy9 oy9 sy9; try simp only [Act.put, List.setIfInBounds_toArray, List.set_cons_zero, List.set_cons_succ]))
    exact bodyPost_ret (result_row2 (p := 2) (u := 3) (ty := 59) (t := 59) (by kernel_rfl) _ _ Z (mcs m) (.int .i64 (ee : Int)) rfl rfl (hy9.congr (allM KM.out)) (sz_rmsg KM.out)) rfl ⟨by rw [HR.out, ← HEE.out, ← HMM.out], below_only bel_4 oy9 geZ bel_4.size⟩
  have HR : Hid (rdM (x :: r) = (zm, 2)) := Lib.hid (by rw [HRD.out, rdK_none (by omega)])
  have e1 : ((x : Int) == 1) = false := by simp; omega
  have e2 : ((x : Int) == 2) = false := by simp; omega
  have e3 : ((x : Int) == 3) = false := by simp; omega
  have e4 : ((x : Int) == 4) = false := by simp; omega
  clear h1 h2 h3 h4 HRD
  clear hc hr hT hx hn hl hpq
  go_enter Try.func11, Try.ntmps11
  go_wp2_with (first
    | ((with_reducible refine at_slot 2 ?_); (refine arm_alloc (o := ⟨some 2, _, _, _, _, _⟩) rfl _ rfl (mcs zm) z_rmsg ?_); intro Z v1 Ze hv1 nv1; try simp only [Act.put, List.setIfInBounds_toArray, List.set_cons_zero, List.set_cons_succ])
    | ((with_reducible refine at_slot 17 ?_); (refine Pf.pause ?_); try simp only [Act.put, List.setIfInBounds_toArray, List.set_cons_zero, List.set_cons_succ]))
  have hbv1 := nv1.below
  have rrv1 : Row v1 Z 59 (mcs zm) := hv1
  have geZ : w.heap.size ≤ Z := by have := Ze.out; omega
  have lZx : w.heap.size ≤ Z := by have := Ze.out; omega
  clear hv1 nv1 Ze
  have bel_2 : Below w.heap.size w v1 := hbv1
  clear hbv1
  refine Pf.go_on ?_
  go_wp2_with (first
    | ((with_reducible refine at_slot 17 ?_); (refine arm_want (.pointer (some ⟨g, o + 0, none⟩)) 17 rfl (by kernel_rfl) (run_op_idxS _ _ _ rfl 5 (by kernel_rfl) (by kernel_rfl) g o n cap rfl .i64 _ rfl 0 rfl HN0.out _) ?_); try simp only [Act.put, List.setIfInBounds_toArray, List.set_cons_zero, List.set_cons_succ])
    | ((with_reducible refine at_slot 18 ?_); (refine arm_want (.int .u8 (x : Int)) 18 rfl (by kernel_rfl) (run_op_load8 _ rfl ⟨g, o + 0, none⟩ rfl _ (HC0.out _ bel_2)) ?_); try simp only [Act.put, List.setIfInBounds_toArray, List.set_cons_zero, List.set_cons_succ])
    | ((with_reducible refine at_slot 64 ?_); (refine arm_build (o := ⟨some 64, _, _, _, _, _⟩) rfl _ _ rfl (mcs zm) (by simp only [List.map_toArray, List.map_nil]; exact built_r0) ?_); try simp only [Act.put, List.setIfInBounds_toArray, List.set_cons_zero, List.set_cons_succ])
    | ((with_reducible refine arm_store (o := ⟨none, _, _, _, _, _⟩) rfl _ _ _ rfl Z 0 rfl (mcs zm) rfl _ _ (rrv1) (fitM zm_ok) (mcs_one _) (sz_rmsg zm_ok) ?_); intro y9 hy9 oy9 sy9; try simp only [Act.put, List.setIfInBounds_toArray, List.set_cons_zero, List.set_cons_succ]))
  exact bodyPost_ret (result_row2 (p := 2) (u := 3) (ty := 59) (t := 59) (by kernel_rfl) _ _ Z (mcs zm) (.int .i64 2) rfl rfl (hy9.congr (allM zm_ok)) (sz_rmsg zm_ok)) rfl ⟨by rw [HR.out]; rfl, below_only bel_2 oy9 geZ bel_2.size⟩
set_option maxHeartbeats 4000000 in
set_option maxRecDepth 100000 in
theorem rmread_over (b : List Nat) (p : Option Addr) (cap : Nat) (w : World) (h : 600 < b.length) :
    Calls Try.prog 11 #[.slice p b.length cap] w (MReadPost w b) := by
  have HR := Lib.hid (rd_over h)
  have d1 : decide ((600 : Int) < (b.length : Int)) = true := decide_eq_true (by omega)
  clear h
  generalize b.length = n at d1 ⊢
  go_enter Try.func11, Try.ntmps11
  go_wp2_with (first
    | ((with_reducible refine at_slot 2 ?_); (refine arm_alloc (o := ⟨some 2, _, _, _, _, _⟩) rfl _ rfl (mcs zm) z_rmsg ?_); intro Z v1 Ze hv1 nv1; try simp only [Act.put, List.setIfInBounds_toArray, List.set_cons_zero, List.set_cons_succ])
    | ((with_reducible refine at_slot 11 ?_); (refine arm_build (o := ⟨some 11, _, _, _, _, _⟩) rfl _ _ rfl (mcs zm) (by simp only [List.map_toArray, List.map_nil]; exact built_r0) ?_); try simp only [Act.put, List.setIfInBounds_toArray, List.set_cons_zero, List.set_cons_succ])
    | ((with_reducible refine arm_store (o := ⟨none, _, _, _, _, _⟩) rfl _ _ _ rfl Z 0 rfl (mcs zm) rfl _ _ (hv1) (fitM zm_ok) (mcs_one _) (sz_rmsg zm_ok) ?_); intro y9 hy9 oy9 sy9; try simp only [Act.put, List.setIfInBounds_toArray, List.set_cons_zero, List.set_cons_succ]))
  have hbv1 := nv1.below
  have rrv1 : Row v1 Z 59 (mcs zm) := hv1
  have geZ : w.heap.size ≤ Z := by have := Ze.out; omega
  have lZx : w.heap.size ≤ Z := by have := Ze.out; omega
  clear hv1 nv1 Ze
  have bel_2 : Below w.heap.size w v1 := hbv1
  clear hbv1
  exact bodyPost_ret (result_row2 (p := 2) (u := 3) (ty := 59) (t := 59) (by kernel_rfl) _ _ Z (mcs zm) (.int .i64 4) rfl rfl (hy9.congr (allM zm_ok)) (sz_rmsg zm_ok)) rfl ⟨by rw [HR.out]; rfl, below_only bel_2 oy9 geZ bel_2.size⟩
set_option maxHeartbeats 4000000 in
set_option maxRecDepth 100000 in
theorem rmread_none (b : List Nat) (p : Option Addr) (cap : Nat) (w : World) (h : b = []) :
    Calls Try.prog 11 #[.slice p b.length cap] w (MReadPost w b) := by
  subst h
  have HR := Lib.hid rd_none
  go_enter Try.func11, Try.ntmps11
  go_wp2_with (first
    | ((with_reducible refine at_slot 2 ?_); (refine arm_alloc (o := ⟨some 2, _, _, _, _, _⟩) rfl _ rfl (mcs zm) z_rmsg ?_); intro Z v1 Ze hv1 nv1; try simp only [Act.put, List.setIfInBounds_toArray, List.set_cons_zero, List.set_cons_succ])
    | ((with_reducible refine at_slot 15 ?_); (refine arm_build (o := ⟨some 15, _, _, _, _, _⟩) rfl _ _ rfl (mcs zm) (by simp only [List.map_toArray, List.map_nil]; exact built_r0) ?_); try simp only [Act.put, List.setIfInBounds_toArray, List.set_cons_zero, List.set_cons_succ])
    | ((with_reducible refine arm_store (o := ⟨none, _, _, _, _, _⟩) rfl _ _ _ rfl Z 0 rfl (mcs zm) rfl _ _ (hv1) (fitM zm_ok) (mcs_one _) (sz_rmsg zm_ok) ?_); intro y9 hy9 oy9 sy9; try simp only [Act.put, List.setIfInBounds_toArray, List.set_cons_zero, List.set_cons_succ]))
  have hbv1 := nv1.below
  have rrv1 : Row v1 Z 59 (mcs zm) := hv1
  have geZ : w.heap.size ≤ Z := by have := Ze.out; omega
  have lZx : w.heap.size ≤ Z := by have := Ze.out; omega
  clear hv1 nv1 Ze
  have bel_2 : Below w.heap.size w v1 := hbv1
  clear hbv1
  exact bodyPost_ret (result_row2 (p := 2) (u := 3) (ty := 59) (t := 59) (by kernel_rfl) _ _ Z (mcs zm) (.int .i64 3) rfl rfl (hy9.congr (allM zm_ok)) (sz_rmsg zm_ok)) rfl ⟨by rw [HR.out]; rfl, below_only bel_2 oy9 geZ bel_2.size⟩
theorem rmread_any (b : List Nat) (p : Option Addr) (cap : Nat) (w : World) (hc : Bt.Came w p cap b) :
    Calls Try.prog 11 #[.slice p b.length cap] w (MReadPost w b) := by
  by_cases h1 : 600 < b.length
  · exact rmread_over b p cap w h1
  by_cases h2 : b = []
  · exact rmread_none b p cap w h2
  obtain ⟨x, r, rfl⟩ := List.exists_cons_of_ne_nil h2
  exact rmread_one x r p cap w hc (by rw [List.length_cons] at h1; omega) _ (List.length_cons ..)
end Go.Proofs.Ytghogoijjaiccaa.Ms
