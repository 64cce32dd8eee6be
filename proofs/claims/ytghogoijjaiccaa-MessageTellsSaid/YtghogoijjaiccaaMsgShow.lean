/-
  The contract of the document's show of layer 17. Over this seat's translation.
-/
import Derived.Test.YtghogoijjaiccaaMsgRead
import Derived.Test.YtghogoijjaiccaaAccRefAll
namespace Go.Proofs.Ytghogoijjaiccaa.Ms
open Go.ChangeShapes Go.WideShapes Go.ChangeAt Go.RowKit Go.Proofs.Ytghogoijjaiccaa.Mem Go.Proofs.Ytghogoijjaiccaa.Bt Go.Proofs.Ytghogoijjaiccaa.Wi Go.Proofs.Ytghogoijjaiccaa.Ac Go.Proofs.Ytghogoijjaiccaa.Tr Go.Proofs.Ytghogoijjaiccaa.Pf
open Go.Proofs.Ytghogoijjaiccaa.Tg (bytesOf bytesOf_length bytesOf_lt bytesOf_inj Rd Rd.below)
open Go.Proofs.Ytghogoijjaiccaa.Ep (H32 zh zh_ok Has Has.refl Has.left Has.right Has.head Has.get Has.chunk Has.range h_len szH zH fitH allH one_app num32)
open Go.Proofs.Ytghogoijjaiccaa.Sa (Sta scs scs_len scs_one zs zs_ok scs_app staB staB_len SRt rdS rdS_ok sz_sta z_sta sz_rsta z_rsta fitS allS)
set_option linter.unusedVariables false
set_option linter.unusedSimpArgs false

structure ShowPost (w : World) (b : List Nat) (e : Ending) (w' : World) : Prop where
  ret : e = .returned (.tuple #[.agg (mcs (rdW b).1).toArray, .int .i64 ((rdW b).2 : Int)])
  bel : Below w.heap.size w w'
theorem rf_apart {w : World} {R D base c : Nat} {s : RS} {q : Option Addr} {bs : List Nat} (h : RfAt w R D s) (ho : Bt.Own w base q c bs) : blk q ≠ some R := by
  obtain ⟨_, _, _, _, _, h, _⟩ := h.ex
  exact row_not_own h.row (by decide) ho
theorem low_of {w : World} {p : Option Addr} {b : List Nat} (h : Rd w p b) : b ≠ [] → ∀ k, blk p = some k → k < w.heap.size := fun hne k hk => by
  obtain ⟨g, o, e, hr⟩ := h.at_ hne
  rw [e] at hk
  have e2 : g = k := Option.some.inj hk
  subst e2
  exact range_lt hr (by intro h; apply hne; simpa [u8s] using h)
structure RShRel (w : World) (M R Z : Nat) (v : Nat) (q : Option Addr) (c : Nat) (tb b : List Nat) (i : Value) (wr : World) : Prop where
  ex : ∃ k : Nat, k ≤ 4 ∧ i = .int .i64 (k : Int) ∧ Row wr M 59 (mcs (shown v za (pK b k))) ∧ RfAt wr R w.heap.size (kh b k)
  own : Bt.Own wr 0 q c tb
  rz : Row wr Z 59 (mcs zm)
  bel : Below w.heap.size w wr
set_option maxHeartbeats 4000000 in
set_option maxRecDepth 100000 in
theorem rshow_any (b : List Nat) (p : Option Addr) (cap : Nat) (w : World) (hp : Rd w p b) (hcp : b.length ≤ cap) (hn : p = none → cap = 0) (hl : b.length ≤ 1000) (hlt : AllLt 256 b) :
    Calls Try.prog 32 #[.slice p b.length cap] w (ShowPost w b) := by
  have HP := Lib.hid hp; have HCP := Lib.hid hcp; have HN := Lib.hid hn; have HLB := Lib.hid hl; have HLTB := Lib.hid hlt
  have HLOW := Lib.hid (low_of hp)
  have HV := Lib.hid (k1_lt hlt)
  have CB : Hid (∀ R d w0, RfAt w0 R d (b, 0) → Calls Try.prog 29 #[.pointer (some ⟨R, 0, none⟩), .int .i64 1] w0 (RfPost w0 R d (.int .u64 ((k1 b).1 : Int)) (k1 b).2)) := Lib.hid fun R d w0 h => fNumber_any 1 R d (b, 0) w0 h (by omega)
  have CT : Hid (∀ R d w0, RfAt w0 R d (k1 b).2 → Calls Try.prog 55 #[.pointer (some ⟨R, 0, none⟩), .int .i64 255] w0 (RfText2 w0 R d (k2 b).1 (kh b 0))) := Lib.hid fun R d w0 h => fText2_any 255 R d (k1 b).2 w0 h (by omega)
  have CH : Hid (∀ k R d w0, RfAt w0 R d (kh b k) → Calls Try.prog 53 #[.pointer (some ⟨R, 0, none⟩)] w0 (RfPost w0 R d (.agg (u8s (hh b k)).toArray) (kh b (k + 1)))) := Lib.hid fun k R d w0 h => fHash_any R d (kh b k) w0 h
  have CE : Hid (∀ R d w0, RfAt w0 R d (kh b 4) → Calls Try.prog 30 #[.pointer (some ⟨R, 0, none⟩)] w0 fun e w' => e = .returned (.int .i64 (shE b : Int)) ∧ Below w0.heap.size w0 w') := Lib.hid fun R d w0 h => fEnd_any R d (kh b 4) w0 h
  have HTL := Lib.hid (k2_len hlt)
  have HTT := Lib.hid (k2_lt hlt)
  have CA : Hid (∀ q c w0, Bt.Own w0 0 q c (k2 b).1 → Calls Try.prog 56 #[.slice q (k2 b).1.length c] w0 fun e w' => e = .returned (.tuple #[.agg (acs (rdA (k2 b).1).1).toArray, .int .i64 ((rdA (k2 b).1).2 : Int)]) ∧ Below w0.heap.size w0 w') := Lib.hid fun q c w0 h => (Ac.rread_any (k2 b).1 q c w0 h.rd h.at.1 (fun e => (own_none h e).2) (by have := HTL.out; omega) HTT.out).mono fun e w' h => ⟨h.ret, h.bel⟩
  have HAO := Lib.hid (rdA_ok HTT.out)
  have HK := Lib.hid (fun k (hk : k ≤ 4) => pK_p4 hlt k hk)
  have HHK := Lib.hid (fun k => hh_ok hlt k)
  have HX1 := Lib.hid (@rdW_1 b); have HX2 := Lib.hid (@rdW_2 b); have HX3 := Lib.hid (@rdW_3 b); have HX4 := Lib.hid (@rdW_4 b)
  have HPA := Lib.hid (pK_all b)
  have HOKK : Hid (∀ k, k ≤ 4 → (shown (k1 b).1 za (pK b k)).Ok) := Lib.hid fun k hk => shown_ok (by have := HV.out; omega) za_ok (HK.out k hk)
  have HSET : Hid ((mcs (ofK 4)).set 365 (.int .i64 ((k1 b).1 : Int)) = mcs (shown (k1 b).1 za z4)) := Lib.hid (set_pl (ofK_ok (n := 4) (by decide)) _)
  have HLT := Lib.hid (lt_m (ofK_ok (n := 4) (by decide)) (i := 365) (by decide))
  have K4O := Lib.hid (ofK_ok (n := 4) (by decide))
  obtain ⟨v, hv⟩ : ∃ x, x = (k1 b).1 := ⟨_, rfl⟩
  obtain ⟨s1, hs1⟩ : ∃ x, x = (k1 b).2 := ⟨_, rfl⟩
  obtain ⟨tb, htb⟩ : ∃ x, x = (k2 b).1 := ⟨_, rfl⟩
  obtain ⟨ee, hee⟩ : ∃ x, x = shE b := ⟨_, rfl⟩
  rw [← hv] at CB HX3 HX4 HOKK HSET HV
  rw [← hs1] at CB CT
  rw [← htb] at CT CA HTL HTT HX2 HX3 HX4 HAO
  rw [← hee] at CE HX1 HX2 HX3 HX4
  have HWR : Hid (IntKind.i64.wrap (v : Int) = (v : Int)) := Lib.hid (by have := HV.out; rw [IntKind.wrap_i64]; omega)
  clear hv hs1 htb hee hp hn hl hlt hcp
  go_enter Try.func32, Try.ntmps32
  go_wp2_with (first
    | ((with_reducible refine at_slot 2 ?_); (refine arm_alloc (o := ⟨some 2, _, _, _, _, _⟩) rfl _ rfl (mcs zm) z_rmsg ?_); intro Z v1 Ze hv1 nv1; try simp only [Act.put, List.setIfInBounds_toArray, List.set_cons_zero, List.set_cons_succ])
    | ((with_reducible refine at_slot 12 ?_); (refine arm_box (o := ⟨some 12, _, _, _, _, _⟩) rfl _ _ rfl (fcells p b.length cap 0 0) rfl ?_); intro R v2 Re hv2 nv2; try simp only [Act.put, List.setIfInBounds_toArray, List.set_cons_zero, List.set_cons_succ])
    | ((with_reducible refine at_slot 11 ?_); (refine arm_build (o := ⟨some 11, _, _, _, _, _⟩) rfl _ _ rfl (fcells p b.length cap 0 0) (by simp only [List.map_toArray, List.map_cons, List.map_nil]; exact built_rd _ _ _) ?_); try simp only [Act.put, List.setIfInBounds_toArray, List.set_cons_zero, List.set_cons_succ])
    | ((with_reducible refine at_slot 13 ?_); (refine Pf.pause ?_); try simp only [Act.put, List.setIfInBounds_toArray, List.set_cons_zero, List.set_cons_succ]))
  have hbv1 := nv1.below
  have rrv1 : Row v1 Z 59 (mcs zm) := hv1
  have hbv2 := nv2.below
  have rrv2 : Row v2 R 91 (fcells p b.length cap 0 0) := hv2
  have geZ : w.heap.size ≤ Z := by have := Ze.out; omega
  clear hv1 nv1 Ze
  have bel_3 : Below w.heap.size w v1 := hbv1
  clear hbv1
  have geR : w.heap.size ≤ R := by have := Re.out; have := bel_3.size; omega
  have ltZR : Z < R := by have := Re.out; have := rrv1.lt; omega
  clear hv2 nv2 Re
  have Z_4 : Row v2 Z 59 (mcs zm) := rrv1.old hbv2
  have bel_4 : Below w.heap.size w v2 := below_step bel_3 bel_3.size hbv2
  clear rrv1 bel_3 hbv2
  refine Pf.go_on ?_
  have neZR := Nat.ne_of_lt ltZR
  have neRZ := neZR.symm
  have hA0 : RfAt v2 R w.heap.size (b, 0) := ⟨p, cap, b, 0, 0, ⟨rrv2, HP.out.below bel_4, HCP.out, HN.out, HLTB.out, Nat.zero_le _, HLOW.out, bel_4.size⟩, by rw [absR_ok, List.drop_zero], by have := HLB.out; omega⟩
  clear rrv2
  have lzZ := Z_4.lt; have lzR := hA0.row_lt
  go_wp2_with (first
    | ((with_reducible refine at_slot 13 ?_); (refine arm_build (o := ⟨some 13, _, _, _, _, _⟩) rfl _ _ rfl (mcs (ofK 4)) (by simp only [List.map_toArray, List.map_cons, List.map_nil]; exact built_rk 4) ?_); try simp only [Act.put, List.setIfInBounds_toArray, List.set_cons_zero, List.set_cons_succ])
    | ((with_reducible refine at_slot 5 ?_); (refine arm_alloc (o := ⟨some 5, _, _, _, _, _⟩) rfl _ rfl (mcs zm) z_rmsg ?_); intro M v5a Me hMa nM; try simp only [Act.put, List.setIfInBounds_toArray, List.set_cons_zero, List.set_cons_succ])
    | ((with_reducible refine arm_store (o := ⟨none, _, _, _, _, _⟩) rfl _ _ _ rfl M 0 rfl (mcs (ofK 4)) rfl _ _ hMa (fitM K4O.out) (mcs_one _) (sz_rmsg K4O.out) ?_); intro v5 hMb oM sM; try simp only [Act.put, List.setIfInBounds_toArray, List.set_cons_zero, List.set_cons_succ]; refine Pf.pause ?_; try simp only [Act.put, List.setIfInBounds_toArray, List.set_cons_zero, List.set_cons_succ]))
  have lM : v2.heap.size ≤ M := by have := Me.out; omega
  have bM : Below v2.heap.size v2 v5 := below_only nM.below oM lM nM.below.size
  have rrM : Row v5 M 59 (mcs (ofK 4)) := hMb.congr (allM K4O.out)
  have geM : w.heap.size ≤ M := Nat.le_trans bel_4.size lM
  have lMx := lM
  clear hMa hMb nM oM sM Me lM
  have Z_6 : Row v5 Z 59 (mcs zm) := Z_4.old bM
  have R_6 : RfAt v5 R w.heap.size (b, 0) := hA0.old bM
  have bel_6 : Below w.heap.size w v5 := below_step bel_4 bel_4.size bM
  clear Z_4 hA0 bel_4 bM
  refine Pf.go_on ?_
  have neZM : Z ≠ M := Nat.ne_of_lt (Nat.lt_of_lt_of_le lzZ lMx); have neRM : R ≠ M := Nat.ne_of_lt (Nat.lt_of_lt_of_le lzR lMx); have neMZ := neZM.symm; have neMR := neRM.symm; clear lzZ lzR
  go_wp2_with fail
  refine (CB.out R _ _ R_6).mono ?_
  rintro e y7 ⟨rfl, hA, hO⟩
  have Z_8 : Row y7 Z 59 (mcs zm) := Z_6.only hO neZR
  have R_8 : RfAt y7 R w.heap.size s1 := hA
  have M_8 : Row y7 M 59 (mcs (ofK 4)) := rrM.only hO neMR
  have bel_8 : Below w.heap.size w y7 := below_only bel_6 hO geR bel_6.size
  clear Z_6 R_6 rrM bel_6 hO
  go_wp2_with (first
    | ((with_reducible refine at_slot 16 ?_); (refine arm_want (.int .i64 (v : Int)) 16 rfl (by kernel_rfl) (run_op_conv17 _ _ _ rfl .u64 .i64 .u64 (by kernel_rfl) (by kernel_rfl) (v : Int) rfl (v : Int) HWR.out _) ?_); try simp only [Act.put, List.setIfInBounds_toArray, List.set_cons_zero, List.set_cons_succ])
    | ((with_reducible refine arm_storeV (o := ⟨none, _, _, _, _, _⟩) rfl _ _ _ rfl M 365 rfl (.int .i64 (v : Int)) rfl (one_i _ _) sz_int _ _ (M_8) (HLT.out) ?_); intro y9 hy9 oy9 sy9; try simp only [Act.put, List.setIfInBounds_toArray, List.set_cons_zero, List.set_cons_succ]))
  try clear sy9
  have Z_9 : Row y9 Z 59 (mcs zm) := Z_8.only oy9 neZM
  have R_9 : RfAt y9 R w.heap.size s1 := R_8.other oy9 neRM geM
  have M_9 : Row y9 M 59 (mcs (shown v za z4)) := hy9.congr HSET.out
  have bel_9 : Below w.heap.size w y9 := below_only bel_8 oy9 geM bel_8.size
  clear Z_8 R_8 M_8 bel_8 oy9
  clear hy9
  refine (CT.out R _ _ R_9).mono ?_
  rintro e y10 ⟨⟨q, c, rfl, hT⟩, hA, hO⟩
  have Z_11 : Row y10 Z 59 (mcs zm) := Z_9.only hO neZR
  have R_11 : RfAt y10 R w.heap.size (kh b 0) := hA
  have M_11 : Row y10 M 59 (mcs (shown v za z4)) := M_9.only hO neMR
  have bel_11 : Below w.heap.size w y10 := below_only bel_9 hO geR bel_9.size
  clear Z_9 R_9 M_9 bel_9 hO
  have nTM : blk q ≠ some M := row_not_own M_11 (by decide) hT
  have nTZ : blk q ≠ some Z := row_not_own Z_11 (by decide) hT
  have nTR : blk q ≠ some R := rf_apart R_11 hT
  go_wp2_with fail
  have h0 : RShRel w M R Z v q c tb b (.int .i64 0) y10 := ⟨⟨0, by omega, rfl, M_11, R_11⟩, hT, Z_11, bel_11⟩
  clear M_11 R_11 hT Z_11 bel_11 CB CT
  go_loopw [7] (fun i wr => RShRel w M R Z v q c tb b i wr) (fun i _ => 4 - (intOf i).toNat)
  case atStart => exact h0
  case round =>
    clear h0
    obtain ⟨⟨k, hk, rfl, hM, hA⟩, hT, hZ, bel⟩ := hrel
    by_cases hlt : k < 4
    · have ik : (k : Int) < 4 := by omega
      have KP := Lib.hid (HK.out k (by omega))
      have HD := Lib.hid (HHK.out k)
      have HOK := Lib.hid (HOKK.out k (by omega))
      have CH2 := Lib.hid (CH.out k)
      have HLT2 := Lib.hid hlt
      have HLY : Hid (lay (mcs (shown v za (pK b k))) (369 + k * 32) (u8s (hh b k)) = mcs (shown v za (pK b (k + 1)))) := Lib.hid (by rw [Nat.mul_comm]; exact lay_dig HOK.out.st KP.out HD.out hlt)
      have HFT : Hid (369 + k * 32 + (u8s (hh b k)).length ≤ (mcs (shown v za (pK b k))).length) := Lib.hid (by rw [h_len HD.out, mcs_len HOK.out]; omega)
      obtain ⟨g, hg⟩ : ∃ g, g = hh b k := ⟨_, rfl⟩
      rw [← hg] at HD CH2 HLY HFT
      clear hg
      go_wp2_with fail
      refine (CH2.out R _ _ hA).mono ?_
      rintro e y101 ⟨rfl, hA, hO⟩
      have M_102 : Row y101 M 59 (mcs (shown v za (pK b k))) := hM.only hO neMR
      have Z_102 : Row y101 Z 59 (mcs zm) := hZ.only hO neZR
      have R_102 : RfAt y101 R w.heap.size (kh b (k + 1)) := hA
      have T_102 : Bt.Own y101 0 q c tb := own_only hT hO nTR
      have bel_102 : Below w.heap.size w y101 := below_only bel hO geR bel.size
      clear hM hZ hA hT bel hO
      go_wp2_with (first
        | ((with_reducible refine at_slot 28 ?_); (refine arm_want (.pointer (some ⟨M, 369 + k * 32, none⟩)) 28 rfl (by kernel_rfl) (run_op_arr _ _ _ rfl 4 24 32 (by kernel_rfl) (by kernel_rfl) M 369 rfl .i64 _ rfl k rfl HLT2.out (369 + k * 32) rfl _) ?_); try simp only [Act.put, List.setIfInBounds_toArray, List.set_cons_zero, List.set_cons_succ])
        | ((with_reducible refine arm_store (o := ⟨none, _, _, _, _, _⟩) rfl _ _ _ rfl M (369 + k * 32) rfl (u8s g) rfl _ _ (M_102) HFT.out (u8s_one _) (szH HD.out) ?_); intro y9 hy9 oy9 sy9; try simp only [Act.put, List.setIfInBounds_toArray, List.set_cons_zero, List.set_cons_succ]; refine Pf.pause ?_; try simp only [Act.put, List.setIfInBounds_toArray, List.set_cons_zero, List.set_cons_succ]))
      refine Pf.go_on ?_
      try clear sy9
      have M_103 : Row y9 M 59 (mcs (shown v za (pK b (k + 1)))) := hy9.congr HLY.out
      have Z_103 : Row y9 Z 59 (mcs zm) := Z_102.only oy9 neZM
      have R_103 : RfAt y9 R w.heap.size (kh b (k + 1)) := R_102.other oy9 neRM geM
      have T_103 : Bt.Own y9 0 q c tb := own_only T_102 oy9 nTM
      have bel_103 : Below w.heap.size w y9 := below_only bel_102 oy9 geM bel_102.size
      clear M_102 Z_102 R_102 T_102 bel_102 oy9
      clear hy9
      go_wp2_with fail
      go_roundw
      case rel => exact ⟨⟨k + 1, by omega, by go_num, M_103, R_103⟩, T_103, Z_103, bel_103⟩
      case measure => simp [intOf]; omega
    · obtain rfl : k = 4 := by omega
      rw [HPA.out] at hM
      have HOK := Lib.hid (HOKK.out 4 (by omega))
      have K4 := Lib.hid (HK.out 4 (by omega))
      rw [HPA.out] at HOK K4
      clear HOKK HK HHK CH HPA hlt hk
      go_wp2_with fail
      by_cases he : ee = 0
      · have hz : ((ee : Int) != 0) = false := by rw [he]; rfl
        have HX2b := Lib.hid (HX2.out he); have HX3b := Lib.hid (HX3.out he); have HX4b := Lib.hid (HX4.out he)
        obtain ⟨a, ha⟩ : ∃ x, x = (rdA tb).1 := ⟨_, rfl⟩
        obtain ⟨ea, hea⟩ : ∃ x, x = (rdA tb).2 := ⟨_, rfl⟩
        rw [← ha, ← hea] at CA
        rw [← hea] at HX2b HX3b
        rw [← ha, ← hea] at HX4b
        rw [← ha] at HAO
        obtain ⟨n, hn⟩ : ∃ x, x = tb.length := ⟨_, rfl⟩
        rw [← hn] at CA ⊢
        clear HX1 HX2 HX3 HX4 he ha hea hn HTL
        refine (CE.out R _ _ hA).mono ?_
        rintro e y201 ⟨rfl, hB⟩
        have M_202 : Row y201 M 59 (mcs (shown v za (hL b))) := hM.old hB
        have Z_202 : Row y201 Z 59 (mcs zm) := hZ.old hB
        have R_202 : RfAt y201 R w.heap.size (kh b 4) := hA.old hB
        have T_202 : Bt.Own y201 0 q c tb := hT.below hB
        have bel_202 : Below w.heap.size w y201 := below_step bel bel.size hB
        clear hM hZ hA hT bel hB
        go_wp2_with fail
        refine (CA.out q c _ T_202).mono ?_
        rintro e y203 ⟨rfl, hB⟩
        have M_204 : Row y203 M 59 (mcs (shown v za (hL b))) := M_202.old hB
        have Z_204 : Row y203 Z 59 (mcs zm) := Z_202.old hB
        have R_204 : RfAt y203 R w.heap.size (kh b 4) := R_202.old hB
        have T_204 : Bt.Own y203 0 q c tb := T_202.below hB
        have bel_204 : Below w.heap.size w y203 := below_step bel_202 bel_202.size hB
        clear M_202 Z_202 R_202 T_202 bel_202 hB
        by_cases hea : ea = 0
        · have hz2 : ((ea : Int) != 0) = false := by rw [hea]; rfl
          have HX3c := Lib.hid (HX3b.out hea); have HX4c := Lib.hid (HX4b.out hea)
          clear HX2b HX3b HX4b hea
          have HFA : Hid (366 + (acs a).length ≤ (mcs (shown v za (hL b))).length) := Lib.hid (by rw [acs_len, mcs_len HOK.out]; omega)
          have HLA : Hid (lay (mcs (shown v za (hL b))) 366 (acs a) = mcs (shown v a (hL b))) := Lib.hid (lay_acc HOK.out.st a)
          have HOA : Hid ((shown v a (hL b)).Ok) := Lib.hid (shown_ok (by have := HV.out; omega) HAO.out K4.out)
          have HCP : Hid ((mcs (shown v za (hL b)))[365]? = some (.int .i64 (v : Int))) := Lib.hid (m_pl HOK.out.st).get
          have lzM := M_204.lt
          go_wp2_with (first
            | ((with_reducible refine at_slot 8 ?_); (refine arm_alloc (o := ⟨some 8, _, _, _, _, _⟩) rfl _ rfl (acs za) z_racc ?_); intro A v205a Ae hAa nA; try simp only [Act.put, List.setIfInBounds_toArray, List.set_cons_zero, List.set_cons_succ])
            | ((with_reducible refine arm_store (o := ⟨none, _, _, _, _, _⟩) rfl _ _ _ rfl A 0 rfl (acs a) rfl _ _ hAa (fitA a) (acs_one a) (sz_racc a) ?_); intro v205 hAb oA sA; try simp only [Act.put, List.setIfInBounds_toArray, List.set_cons_zero, List.set_cons_succ]; refine Pf.pause ?_; try simp only [Act.put, List.setIfInBounds_toArray, List.set_cons_zero, List.set_cons_succ]))
          have lA : y203.heap.size ≤ A := by have := Ae.out; omega
          have bA : Below y203.heap.size y203 v205 := below_only nA.below oA lA nA.below.size
          have rrA : Row v205 A 57 (acs a) := hAb.congr (allA a)
          have geA : w.heap.size ≤ A := Nat.le_trans bel_204.size lA
          have lAx := lA
          clear hAa hAb nA oA sA Ae lA
          have M_206 : Row v205 M 59 (mcs (shown v za (hL b))) := M_204.old bA
          have Z_206 : Row v205 Z 59 (mcs zm) := Z_204.old bA
          have R_206 : RfAt v205 R w.heap.size (kh b 4) := R_204.old bA
          have T_206 : Bt.Own v205 0 q c tb := T_204.below bA
          have bel_206 : Below w.heap.size w v205 := below_step bel_204 bel_204.size bA
          clear M_204 Z_204 R_204 T_204 bel_204 bA
          refine Pf.go_on ?_
          have neAM : A ≠ M := (Nat.ne_of_lt (Nat.lt_of_lt_of_le lzM lAx)).symm
          have hcp := M_206.cell HCP.out
          by_cases hv : 15 < v
          · have d3 : decide ((15 : Int) < (v : Int)) = true := decide_eq_true (by omega)
            have HE := Lib.hid (HX3c.out hv)
            clear hv HX3c HX4c
            go_wp2_with (first
              | ((with_reducible refine at_slot 47 ?_); (refine arm_build (o := ⟨some 47, _, _, _, _, _⟩) rfl _ _ rfl (mcs zm) (by simp only [List.map_toArray, List.map_nil]; exact built_r0) ?_); try simp only [Act.put, List.setIfInBounds_toArray, List.set_cons_zero, List.set_cons_succ])
              | ((with_reducible refine arm_store (o := ⟨none, _, _, _, _, _⟩) rfl _ _ _ rfl Z 0 rfl (mcs zm) rfl _ _ (Z_206) (fitM zm_ok) (mcs_one _) (sz_rmsg zm_ok) ?_); intro y9 hy9 oy9 sy9; try simp only [Act.put, List.setIfInBounds_toArray, List.set_cons_zero, List.set_cons_succ]))
            exact bodyPost_ret (result_row2 (p := 2) (u := 3) (ty := 59) (t := 59) (by kernel_rfl) _ _ Z (mcs zm) (.int .i64 1) rfl rfl (hy9.congr (allM zm_ok)) (sz_rmsg zm_ok)) rfl ⟨by rw [HE.out]; rfl, below_only bel_206 oy9 geZ bel_206.size⟩
          · have d3 : decide ((15 : Int) < (v : Int)) = false := decide_eq_false (by omega)
            have HE := Lib.hid (HX4c.out hv)
            clear hv HX3c HX4c
            go_wp2_with (first
              | ((with_reducible refine at_slot 48 ?_); (refine arm_load (o := ⟨some 48, _, _, _, _, _⟩) rfl _ _ rfl A 0 rfl (acs a) ((Has.refl _).range rrA) (sz_racc a) ?_); try simp only [Act.put, List.setIfInBounds_toArray, List.set_cons_zero, List.set_cons_succ])
              | ((with_reducible refine arm_store (o := ⟨none, _, _, _, _, _⟩) rfl _ _ _ rfl M 366 rfl (acs a) rfl _ _ (M_206) HFA.out (acs_one a) (sz_racc a) ?_); intro y8 hy8 oy8 sy8; try simp only [Act.put, List.setIfInBounds_toArray, List.set_cons_zero, List.set_cons_succ])
              | ((with_reducible refine at_slot 50 ?_); (refine arm_load (o := ⟨some 50, _, _, _, _, _⟩) rfl _ _ rfl M 0 rfl (mcs (shown v a (hL b))) ((Has.refl _).range (hy8.congr HLA.out)) (sz_rmsg HOA.out) ?_); try simp only [Act.put, List.setIfInBounds_toArray, List.set_cons_zero, List.set_cons_succ])
              | ((with_reducible refine arm_store (o := ⟨none, _, _, _, _, _⟩) rfl _ _ _ rfl Z 0 rfl (mcs (shown v a (hL b))) rfl _ _ ((Z_206.only oy8 neZM)) (fitM HOA.out) (mcs_one _) (sz_rmsg HOA.out) ?_); intro y9 hy9 oy9 sy9; try simp only [Act.put, List.setIfInBounds_toArray, List.set_cons_zero, List.set_cons_succ]))
            have bel9 : Below w.heap.size w y8 := below_only bel_206 oy8 geM bel_206.size
            exact bodyPost_ret (result_row2 (p := 2) (u := 3) (ty := 59) (t := 59) (by kernel_rfl) _ _ Z (mcs (shown v a (hL b))) (.int .i64 0) rfl rfl (hy9.congr (allM HOA.out)) (sz_rmsg HOA.out)) rfl ⟨by rw [HE.out]; rfl, below_only bel9 oy9 geZ bel9.size⟩
        · have hz2 : ((ea : Int) != 0) = true := by simp; omega
          have HE := Lib.hid (HX2b.out hea)
          clear HX2b HX3b HX4b hea
          obtain ⟨z, hzz⟩ : ∃ z : Int, z = (ea : Int) := ⟨_, rfl⟩
          rw [← hzz] at hz2 ⊢
          have HZ := Lib.hid hzz
          clear hzz
          go_wp2_with (first
            | ((with_reducible refine at_slot 8 ?_); (refine arm_alloc (o := ⟨some 8, _, _, _, _, _⟩) rfl _ rfl (acs za) z_racc ?_); intro A v205a Ae hAa nA; try simp only [Act.put, List.setIfInBounds_toArray, List.set_cons_zero, List.set_cons_succ])
            | ((with_reducible refine arm_store (o := ⟨none, _, _, _, _, _⟩) rfl _ _ _ rfl A 0 rfl (acs a) rfl _ _ hAa (fitA a) (acs_one a) (sz_racc a) ?_); intro v205 hAb oA sA; try simp only [Act.put, List.setIfInBounds_toArray, List.set_cons_zero, List.set_cons_succ]; refine Pf.pause ?_; try simp only [Act.put, List.setIfInBounds_toArray, List.set_cons_zero, List.set_cons_succ]))
          have lA : y203.heap.size ≤ A := by have := Ae.out; omega
          have bA : Below y203.heap.size y203 v205 := below_only nA.below oA lA nA.below.size
          have rrA : Row v205 A 57 (acs a) := hAb.congr (allA a)
          have geA : w.heap.size ≤ A := Nat.le_trans bel_204.size lA
          have lAx := lA
          clear hAa hAb nA oA sA Ae lA
          have M_206 : Row v205 M 59 (mcs (shown v za (hL b))) := M_204.old bA
          have Z_206 : Row v205 Z 59 (mcs zm) := Z_204.old bA
          have R_206 : RfAt v205 R w.heap.size (kh b 4) := R_204.old bA
          have T_206 : Bt.Own v205 0 q c tb := T_204.below bA
          have bel_206 : Below w.heap.size w v205 := below_step bel_204 bel_204.size bA
          clear M_204 Z_204 R_204 T_204 bel_204 bA
          refine Pf.go_on ?_
          go_wp2_with (first
            | ((with_reducible refine at_slot 42 ?_); (refine arm_build (o := ⟨some 42, _, _, _, _, _⟩) rfl _ _ rfl (mcs zm) (by simp only [List.map_toArray, List.map_nil]; exact built_r0) ?_); try simp only [Act.put, List.setIfInBounds_toArray, List.set_cons_zero, List.set_cons_succ])
            | ((with_reducible refine arm_store (o := ⟨none, _, _, _, _, _⟩) rfl _ _ _ rfl Z 0 rfl (mcs zm) rfl _ _ (Z_206) (fitM zm_ok) (mcs_one _) (sz_rmsg zm_ok) ?_); intro y9 hy9 oy9 sy9; try simp only [Act.put, List.setIfInBounds_toArray, List.set_cons_zero, List.set_cons_succ]))
          exact bodyPost_ret (result_row2 (p := 2) (u := 3) (ty := 59) (t := 59) (by kernel_rfl) _ _ Z (mcs zm) (.int .i64 z) rfl rfl (hy9.congr (allM zm_ok)) (sz_rmsg zm_ok)) rfl ⟨by rw [HE.out, HZ.out], below_only bel_206 oy9 geZ bel_206.size⟩
      · have hz : ((ee : Int) != 0) = true := by simp; omega
        have HE := Lib.hid (HX1.out he)
        clear HX1 HX2 HX3 HX4 he
        obtain ⟨z, hzz⟩ : ∃ z : Int, z = (ee : Int) := ⟨_, rfl⟩
        rw [← hzz] at hz CE
        have HZ := Lib.hid hzz
        clear hzz
        refine (CE.out R _ _ hA).mono ?_
        rintro e y201 ⟨rfl, hB⟩
        have M_202 : Row y201 M 59 (mcs (shown v za (hL b))) := hM.old hB
        have Z_202 : Row y201 Z 59 (mcs zm) := hZ.old hB
        have R_202 : RfAt y201 R w.heap.size (kh b 4) := hA.old hB
        have T_202 : Bt.Own y201 0 q c tb := hT.below hB
        have bel_202 : Below w.heap.size w y201 := below_step bel bel.size hB
        clear hM hZ hA hT bel hB
        go_wp2_with (first
          | ((with_reducible refine at_slot 32 ?_); (refine arm_build (o := ⟨some 32, _, _, _, _, _⟩) rfl _ _ rfl (mcs zm) (by simp only [List.map_toArray, List.map_nil]; exact built_r0) ?_); try simp only [Act.put, List.setIfInBounds_toArray, List.set_cons_zero, List.set_cons_succ]))
        refine (CE.out R _ _ R_202).mono ?_
        rintro e y203 ⟨rfl, hB⟩
        have M_204 : Row y203 M 59 (mcs (shown v za (hL b))) := M_202.old hB
        have Z_204 : Row y203 Z 59 (mcs zm) := Z_202.old hB
        have R_204 : RfAt y203 R w.heap.size (kh b 4) := R_202.old hB
        have T_204 : Bt.Own y203 0 q c tb := T_202.below hB
        have bel_204 : Below w.heap.size w y203 := below_step bel_202 bel_202.size hB
        clear M_202 Z_202 R_202 T_202 bel_202 hB
        go_wp2_with (first
          | ((with_reducible refine arm_store (o := ⟨none, _, _, _, _, _⟩) rfl _ _ _ rfl Z 0 rfl (mcs zm) rfl _ _ (Z_204) (fitM zm_ok) (mcs_one _) (sz_rmsg zm_ok) ?_); intro y9 hy9 oy9 sy9; try simp only [Act.put, List.setIfInBounds_toArray, List.set_cons_zero, List.set_cons_succ]))
        exact bodyPost_ret (result_row2 (p := 2) (u := 3) (ty := 59) (t := 59) (by kernel_rfl) _ _ Z (mcs zm) (.int .i64 z) rfl rfl (hy9.congr (allM zm_ok)) (sz_rmsg zm_ok)) rfl ⟨by rw [HE.out, HZ.out], below_only bel_204 oy9 geZ bel_204.size⟩
end Go.Proofs.Ytghogoijjaiccaa.Ms
