/-
  The contracts of layer 17's own, and of its awake (the calls whose answers the document fixes answer so: it returns true). Over this seat's translation.
-/
import Derived.Test.YtghogoijjaiccaaMsgDo
import Derived.Test.YtghogoijjaiccaaStaDo
import Derived.Test.YtghogoijjaiccaaBytAll
namespace Go.Proofs.Ytghogoijjaiccaa.Ms
open Go.ChangeShapes Go.WideShapes Go.ChangeAt Go.RowKit Go.Proofs.Ytghogoijjaiccaa.Mem Go.Proofs.Ytghogoijjaiccaa.Bt Go.Proofs.Ytghogoijjaiccaa.Wi Go.Proofs.Ytghogoijjaiccaa.Ac Go.Proofs.Ytghogoijjaiccaa.Tr Go.Proofs.Ytghogoijjaiccaa.Pf
open Go.Proofs.Ytghogoijjaiccaa.Tg (bytesOf bytesOf_length bytesOf_lt bytesOf_inj Rd Rd.below)
open Go.Proofs.Ytghogoijjaiccaa.Ep (H32 zh zh_ok Has Has.refl Has.left Has.right Has.head Has.get Has.chunk Has.range h_len szH zH fitH allH one_app num32)
open Go.Proofs.Ytghogoijjaiccaa.Sa (Sta scs scs_len scs_one zs zs_ok scs_app staB staB_len SRt rdS rdS_ok sz_sta z_sta sz_rsta z_rsta fitS allS)
set_option linter.unusedVariables false
set_option linter.unusedSimpArgs false

def hM : Msg := hello 258
def oneH : List Nat := 1 :: List.replicate 31 0
theorem oneH_ok : H32 oneH := ⟨by simp [oneH], fun x hx => by
  simp only [oneH, List.mem_cons, List.mem_replicate] at hx
  omega⟩
def tM : Msg := tip (Sa.genS oneH)
theorem gen_rt (x : List Nat) : SRt (Sa.genS x) := ⟨(by decide : Wn.WRt 12 0 [1, 3, 3, 3]), (by decide : 0 = 0 / 3), ⟨Nat.le_refl 1, (by decide : 1 ≤ 0 + 1)⟩, (by decide : 0 ≤ 0 / 24), (by decide : 0 < 1), ⟨Nat.le_refl 1, (by decide : 1 ≤ 0 % 24 + 1)⟩, Nat.le_refl 1⟩
theorem hM_ok : hM.Ok := hello_ok (by decide)
theorem hM_rt : MRt hM := mrt_hello _
theorem tM_ok : tM.Ok := tip_ok (Sa.gen_ok oneH_ok)
theorem tM_rt : MRt tM := mrt_tip (gen_rt _)
theorem zm_no : ¬ MRt zm := mrt_no (by decide)
theorem hM_b : mbB hM = [1, 0, 0, 1, 2] := by
  rw [mbB_rt hM_rt]
  decide
theorem tM_len : (mbB tM).length = 397 := by
  rw [mbB_rt tM_rt]
  show (2 :: staB (Sa.genS oneH)).length = 397
  rw [List.length_cons, staB_len (Sa.gen_ok oneH_ok)]
theorem rd_back17 {m : Msg} (k : m.Ok) (h : MRt m) : rdM (mbB m) = (m, 0) := by rw [mbB_rt h, msg_back k h]
theorem bs5 (w : World) : (Instr.buildSlice 43 5 #[(0, .int .u8 1), (1, .int .u8 0), (2, .int .u8 0), (3, .int .u8 1), (4, .int .u8 2)]).run Try.prog w = .ok (.slice (some ⟨w.heap.size, 0, none⟩) 5 5) (w.alloc (.cells (u8s [1, 0, 0, 1, 2]).toArray 5)) := by kernel_rfl
theorem built_one : Try.prog.built 24 [(0, .int .u8 1)] = some (u8s oneH).toArray := by kernel_rfl
/-- Bytes of one that may be, in the words of a call. -/
theorem bytes_rt {m : Msg} (k : m.Ok) (h : MRt m) {n : Nat} (hn : (mbB m).length = n) (w : World) : Calls Try.prog 7 #[.agg (mcs m).toArray] w fun e w' => (∃ q c, e = .returned (.tuple #[.slice q n c, .int .i64 0]) ∧ Bt.Own w' w.heap.size q c (mbB m)) ∧ Below w.heap.size w w' := by
  subst hn
  exact (mbytes_any m w k).mono fun e w' g => ⟨by
    obtain ⟨q, c, h1, h2⟩ := g.ex
    rw [mbE_rt h] at h1
    exact ⟨q, c, h1, h2⟩, g.bel⟩
theorem read_own {b : List Nat} {base : Nat} {q : Option Addr} {c n : Nat} {w : World} (h : Bt.Own w base q c b) (hlt : AllLt 256 b) (hn : b.length = n) : Calls Try.prog 10 #[.slice q n c] w fun e w' => e = .returned (.tuple #[.agg (mcs (rdM b).1).toArray, .int .i64 ((rdM b).2 : Int)]) ∧ Below w.heap.size w w' := by
  subst hn
  exact (mread_any b q c w (h.came hlt)).mono fun e w' g => ⟨g.ret, g.bel⟩
set_option maxHeartbeats 4000000 in
set_option maxRecDepth 100000 in
theorem own17_any (m : Msg) (w : World) (k : m.Ok) :
    Calls Try.prog 9 #[.agg (mcs m).toArray] w fun e w' => e = .returned (.agg (mcs m).toArray) ∧ Below w.heap.size w w' := by
  have K := Lib.hid k; have OK := Lib.hid k.st
  have CK := Lib.hid (m_kind m).get; have CV := Lib.hid (m_ver m).get; have CP := Lib.hid (m_pl k.st).get
  have HS := Lib.hid (m_st m); have HA := Lib.hid (m_acc k.st); have HP := Lib.hid (m_path k.st)
  have CA0 := Lib.hid (m_nm k.st).get; have CA1 := Lib.hid (m_bal k.st); have CA2 := Lib.hid (m_non k.st)
  have SP := Lib.hid (sz_path k.path.ok k.path.len)
  have BW := Lib.hid (Wn.built_rwin m.st.min m.st.last m.st.counts k.st.counts)
  have BP := Lib.hid (Ep.built_rpair k.st.now k.st.next)
  have BS := Lib.hid (Sa.built_all k.st)
  have BM := Lib.hid (built_rall k)
  clear k
  go_enter Try.func9, Try.ntmps9
  go_wp2_with (first
    | ((with_reducible refine at_slot 1 ?_); (refine arm_box (o := ⟨some 1, _, _, _, _, _⟩) rfl _ _ rfl (mcs m) rfl ?_); intro X v1 Xe hv1 nv1; try simp only [Act.put, List.setIfInBounds_toArray, List.set_cons_zero, List.set_cons_succ])
    | ((with_reducible refine at_slot 2 ?_); (refine arm_alloc (o := ⟨some 2, _, _, _, _, _⟩) rfl _ rfl (mcs zm) z_rmsg ?_); intro R v2 Re hv2 nv2; try simp only [Act.put, List.setIfInBounds_toArray, List.set_cons_zero, List.set_cons_succ])
    | ((with_reducible refine at_slot 5 ?_); (refine Pf.pause ?_); try simp only [Act.put, List.setIfInBounds_toArray, List.set_cons_zero, List.set_cons_succ]))
  have hbv1 := nv1.below
  have rrv1 : Row v1 X 42 (mcs m) := hv1
  have hbv2 := nv2.below
  have rrv2 : Row v2 R 59 (mcs zm) := hv2
  have geX : w.heap.size ≤ X := by have := Xe.out; omega
  have lXx : w.heap.size ≤ X := by have := Xe.out; omega
  clear hv1 nv1 Xe
  have bel_3 : Below w.heap.size w v1 := hbv1
  clear hbv1
  have geR : w.heap.size ≤ R := by have := Re.out; have := bel_3.size; omega
  have ltXR : X < R := by have := Re.out; have := rrv1.lt; omega
  have lRx : v1.heap.size ≤ R := by have := Re.out; omega
  clear hv2 nv2 Re
  have X_4 : Row v2 X 42 (mcs m) := rrv1.old hbv2
  have bel_4 : Below w.heap.size w v2 := below_step bel_3 bel_3.size hbv2
  clear rrv1 bel_3 hbv2
  refine Pf.go_on ?_
  go_wp2_with (first
    | ((with_reducible refine at_slot 5 ?_); (refine arm_load (o := ⟨some 5, _, _, _, _, _⟩) rfl _ _ rfl X 2 rfl (scs m.st) (HS.out.range X_4) (sz_sta OK.out) ?_); try simp only [Act.put, List.setIfInBounds_toArray, List.set_cons_zero, List.set_cons_succ])
    | ((with_reducible refine at_slot 3 ?_); (refine arm_alloc (o := ⟨some 3, _, _, _, _, _⟩) rfl _ rfl (scs zs) z_sta ?_); intro S v5a Se hSa nS; try simp only [Act.put, List.setIfInBounds_toArray, List.set_cons_zero, List.set_cons_succ])
    | ((with_reducible refine arm_store (o := ⟨none, _, _, _, _, _⟩) rfl _ _ _ rfl S 0 rfl (scs m.st) rfl _ _ hSa (fitS OK.out) (scs_one _) (sz_sta OK.out) ?_); intro v5 hSb oS sS; try simp only [Act.put, List.setIfInBounds_toArray, List.set_cons_zero, List.set_cons_succ]; refine Pf.pause ?_; try simp only [Act.put, List.setIfInBounds_toArray, List.set_cons_zero, List.set_cons_succ]))
  have lS : v2.heap.size ≤ S := by have := Se.out; omega
  have bS : Below v2.heap.size v2 v5 := below_only nS.below oS lS nS.below.size
  have rrS : Row v5 S 35 (scs m.st) := hSb.congr (allS OK.out)
  have geS : w.heap.size ≤ S := Nat.le_trans bel_4.size lS
  have lSx := lS
  clear hSa hSb nS oS sS Se lS
  have X_6 : Row v5 X 42 (mcs m) := X_4.old bS
  have R_6 : Row v5 R 59 (mcs zm) := rrv2.old bS
  have bel_6 : Below w.heap.size w v5 := below_step bel_4 bel_4.size bS
  clear X_4 rrv2 bel_4 bS
  refine Pf.go_on ?_
  have ck := X_6.cell CK.out
  have cv := X_6.cell CV.out
  have cp := X_6.cell CP.out
  have x96 : v5.cell? ⟨S, 96, none⟩ = some (.int .u32 (m.st.slot : Int)) := rrS.cell (Sa.sc_slot OK.out)
  have x97 : v5.cell? ⟨S, 97, none⟩ = some (.int .u32 (m.st.len : Int)) := rrS.cell (Sa.sc_len OK.out)
  have x98 : v5.cell? ⟨S, 98, none⟩ = some (.int .u32 (m.st.count : Int)) := rrS.cell (Sa.sc_count OK.out)
  have x99 : v5.cell? ⟨S, 99, none⟩ = some (.int .u32 (m.st.min : Int)) := rrS.cell (Sa.sc_min OK.out)
  go_wp2_with (first
    | ((with_reducible refine at_slot 11 ?_); (refine arm_load (o := ⟨some 11, _, _, _, _, _⟩) rfl _ _ rfl S 0 rfl (u8s m.st.prev) ((Sa.h_prev OK.out).range rrS) (szH OK.out.prev) ?_); try simp only [Act.put, List.setIfInBounds_toArray, List.set_cons_zero, List.set_cons_succ])
    | ((with_reducible refine at_slot 13 ?_); (refine arm_load (o := ⟨some 13, _, _, _, _, _⟩) rfl _ _ rfl S 32 rfl (u8s m.st.led) ((Sa.h_ledg OK.out).range rrS) (szH OK.out.led) ?_); try simp only [Act.put, List.setIfInBounds_toArray, List.set_cons_zero, List.set_cons_succ])
    | ((with_reducible refine at_slot 15 ?_); (refine arm_load (o := ⟨some 15, _, _, _, _, _⟩) rfl _ _ rfl S 64 rfl (u8s m.st.draw) ((Sa.h_drw OK.out).range rrS) (szH OK.out.draw) ?_); try simp only [Act.put, List.setIfInBounds_toArray, List.set_cons_zero, List.set_cons_succ])
    | ((with_reducible refine at_slot 27 ?_); (refine arm_load (o := ⟨some 27, _, _, _, _, _⟩) rfl _ _ rfl S 100 rfl (Rg.rcs m.st.last m.st.counts) (((Sa.s_win OK.out).right (a := [num32 m.st.min]) 1 rfl).range rrS) (Rg.sz_ring' OK.out.counts) ?_); try simp only [Act.put, List.setIfInBounds_toArray, List.set_cons_zero, List.set_cons_succ])
    | ((with_reducible refine at_slot 28 ?_); (refine arm_build (o := ⟨some 28, _, _, _, _, _⟩) rfl _ _ rfl (Wn.wcs m.st.min m.st.last m.st.counts) (by simp only [List.map_toArray, List.map_cons, List.map_nil]; exact BW.out) ?_); try simp only [Act.put, List.setIfInBounds_toArray, List.set_cons_zero, List.set_cons_succ])
    | ((with_reducible refine at_slot 31 ?_); (refine arm_load (o := ⟨some 31, _, _, _, _, _⟩) rfl _ _ rfl S 105 rfl (Ep.dcs m.st.now) (((Sa.s_eps OK.out).left).range rrS) (Ep.sz_dat OK.out.now) ?_); try simp only [Act.put, List.setIfInBounds_toArray, List.set_cons_zero, List.set_cons_succ])
    | ((with_reducible refine at_slot 34 ?_); (refine arm_load (o := ⟨some 34, _, _, _, _, _⟩) rfl _ _ rfl S 234 rfl (Ep.dcs m.st.next) (((Sa.s_eps OK.out).right 129 (Ep.dcs_len OK.out.now)).range rrS) (Ep.sz_dat OK.out.next) ?_); try simp only [Act.put, List.setIfInBounds_toArray, List.set_cons_zero, List.set_cons_succ])
    | ((with_reducible refine at_slot 35 ?_); (refine arm_build (o := ⟨some 35, _, _, _, _, _⟩) rfl _ _ rfl (Ep.pcs m.st.now m.st.next) (by simp only [List.map_toArray, List.map_cons, List.map_nil]; exact BP.out) ?_); try simp only [Act.put, List.setIfInBounds_toArray, List.set_cons_zero, List.set_cons_succ])
    | ((with_reducible refine at_slot 36 ?_); (refine arm_build (o := ⟨some 36, _, _, _, _, _⟩) rfl _ _ rfl (scs m.st) (by simp only [List.map_toArray, List.map_cons, List.map_nil]; exact BS.out) ?_); try simp only [Act.put, List.setIfInBounds_toArray, List.set_cons_zero, List.set_cons_succ])
    | ((with_reducible refine at_slot 40 ?_); (refine arm_load (o := ⟨some 40, _, _, _, _, _⟩) rfl _ _ rfl X 366 rfl (acs m.acc) (HA.out.range X_6) (sz_acc _) ?_); try simp only [Act.put, List.setIfInBounds_toArray, List.set_cons_zero, List.set_cons_succ])
    | ((with_reducible refine at_slot 42 ?_); (refine arm_load (o := ⟨some 42, _, _, _, _, _⟩) rfl _ _ rfl X 369 rfl (dgC m.path) (HP.out.range X_6) SP.out ?_); try simp only [Act.put, List.setIfInBounds_toArray, List.set_cons_zero, List.set_cons_succ])
    | ((with_reducible refine at_slot 43 ?_); (refine arm_build (o := ⟨some 43, _, _, _, _, _⟩) rfl _ _ rfl (mcs m) (by simp only [List.map_toArray, List.map_cons, List.map_nil]; exact BM.out) ?_); try simp only [Act.put, List.setIfInBounds_toArray, List.set_cons_zero, List.set_cons_succ])
    | ((with_reducible refine arm_store (o := ⟨none, _, _, _, _, _⟩) rfl _ _ _ rfl R 0 rfl (mcs m) rfl _ _ (R_6) (fitM K.out) (mcs_one _) (sz_rmsg K.out) ?_); intro y9 hy9 oy9 sy9; try simp only [Act.put, List.setIfInBounds_toArray, List.set_cons_zero, List.set_cons_succ]))
  exact bodyPost_ret (v := .agg (mcs m).toArray) (result_row (p := 2) (ty := 59) (u := 59) (by kernel_rfl) _ _ R (mcs m) rfl (hy9.congr (allM K.out)) (sz_rmsg K.out)) rfl ⟨rfl, below_only bel_6 oy9 geR bel_6.size⟩
set_option maxHeartbeats 4000000 in
set_option maxRecDepth 100000 in
theorem awake17_any (w : World) :
    Calls Try.prog 6 #[] w fun e w' => e = .returned (.bool true) ∧ Below w.heap.size w w' := by
  have HK := Lib.hid hM_ok; have TK := Lib.hid tM_ok
  have CB1 : Hid (∀ w0, Calls Try.prog 7 #[.agg (mcs hM).toArray] w0 fun e w' => (∃ q c, e = .returned (.tuple #[.slice q 5 c, .int .i64 0]) ∧ Bt.Own w' w0.heap.size q c [1, 0, 0, 1, 2]) ∧ Below w0.heap.size w0 w') := Lib.hid fun w0 => by
    have h := bytes_rt hM_ok hM_rt (n := 5) (by rw [hM_b]; rfl) w0
    rw [hM_b] at h
    exact h
  have CB2 := Lib.hid (fun w0 => bytes_rt tM_ok tM_rt tM_len w0)
  have CD1 : Hid (∀ q c w0, Bt.Own w0 0 q c [1, 0, 0, 1, 2] → Calls Try.prog 10 #[.slice q 5 c] w0 fun e w' => e = .returned (.tuple #[.agg (mcs hM).toArray, .int .i64 0]) ∧ Below w0.heap.size w0 w') := Lib.hid fun q c w0 h => by
    rw [← hM_b] at h
    have g := read_own h (mbB_lt hM_ok) (n := 5) (by rw [hM_b]; rfl)
    rw [rd_back17 hM_ok hM_rt] at g
    exact g
  have CD2 : Hid (∀ q c w0, Bt.Own w0 0 q c (mbB tM) → Calls Try.prog 10 #[.slice q 397 c] w0 fun e w' => e = .returned (.tuple #[.agg (mcs tM).toArray, .int .i64 0]) ∧ Below w0.heap.size w0 w') := Lib.hid fun q c w0 h => by
    have g := read_own h (mbB_lt tM_ok) tM_len
    rw [rd_back17 tM_ok tM_rt] at g
    exact g
  have CD9 : Hid (∀ q c w0, Bt.Own w0 w.heap.size q c [9] → Calls Try.prog 10 #[.slice q 1 c] w0 fun e w' => e = .returned (.tuple #[.agg (mcs zm).toArray, .int .i64 2]) ∧ Below w0.heap.size w0 w') := Lib.hid fun q c w0 h => read_own h (fun x hx => by simp at hx; omega) rfl
  have CG : Hid (∀ w0, Calls Try.prog 15 #[.agg (u8s oneH).toArray] w0 fun e w' => e = .returned (.agg (scs (Sa.genS oneH)).toArray) ∧ Below w0.heap.size w0 w') := Lib.hid fun w0 => Sa.sgenesis_any oneH w0 oneH_ok
  have B1 : Hid (Try.prog.built 42 [(0, .int .u8 1), (1, .int .u32 258)] = some (mcs hM).toArray) := Lib.hid (built_mh 258)
  have B2 : Hid (Try.prog.built 42 [(0, .int .u8 2), (2, .agg (scs (Sa.genS oneH)).toArray)] = some (mcs tM).toArray) := Lib.hid (built_mt (Sa.gen_ok oneH_ok))
  have CRH : Hid (∀ w0, Calls Try.prog 12 #[.agg (mcs hM).toArray] w0 fun e w' => e = .returned (.bool true) ∧ Below w0.heap.size w0 w') := Lib.hid fun w0 => (mright_any hM w0 hM_ok).mono fun e w' h => ⟨by rw [h.1, mrB_true hM_rt], h.2⟩
  have CRZ : Hid (∀ w0, Calls Try.prog 12 #[.agg (mcs zm).toArray] w0 fun e w' => e = .returned (.bool false) ∧ Below w0.heap.size w0 w') := Lib.hid fun w0 => (mright_any zm w0 zm_ok).mono fun e w' h => ⟨by rw [h.1, mrB_false zm_no], h.2⟩
  have CSM : Hid (∀ q c r d w0, Bt.Own w0 0 q c [1, 0, 0, 1, 2] → Bt.Own w0 w.heap.size r d [1, 0, 0, 1, 2] → Calls Try.prog 14 #[.slice q 5 c, .slice r 5 d] w0 fun e w' => e = .returned (.bool true) ∧ Below w0.heap.size w0 w') := Lib.hid fun q c r d w0 h1 h2 => same_at [1, 0, 0, 1, 2] [1, 0, 0, 1, 2] q r c d 5 5 rfl rfl w0 h1.rd h2.rd (by decide) (by decide)
  obtain ⟨hm, hhm⟩ : ∃ x, x = hM := ⟨_, rfl⟩
  obtain ⟨tm, htm⟩ : ∃ x, x = tM := ⟨_, rfl⟩
  obtain ⟨gs, hgs⟩ : ∃ x, x = scs (Sa.genS oneH) := ⟨_, rfl⟩
  obtain ⟨tb, htb⟩ : ∃ x, x = mbB tM := ⟨_, rfl⟩
  rw [← htb] at CB2 CD2
  rw [← hhm] at HK CB1 CD1 B1 CRH
  rw [← htm] at TK CB2 CD2 B2
  rw [← hgs] at CG B2
  have SH := Lib.hid (sz_msg HK.out); have STM := Lib.hid (sz_msg TK.out); have SZ := Lib.hid (sz_msg zm_ok)
  clear hhm htm hgs htb
  go_enter Try.func6, Try.ntmps6
  go_wp2_with (first
    | ((with_reducible refine at_slot 13 ?_); (refine arm_build (o := ⟨some 13, _, _, _, _, _⟩) rfl _ _ rfl (mcs hm) (by simp only [List.map_toArray, List.map_cons, List.map_nil]; exact B1.out) ?_); try simp only [Act.put, List.setIfInBounds_toArray, List.set_cons_zero, List.set_cons_succ])
    | ((with_reducible refine at_slot 1 ?_); (refine arm_alloc (o := ⟨some 1, _, _, _, _, _⟩) rfl _ rfl (mcs zm) z_msg ?_); intro A v1a Ae hAa nA; try simp only [Act.put, List.setIfInBounds_toArray, List.set_cons_zero, List.set_cons_succ])
    | ((with_reducible refine arm_store (o := ⟨none, _, _, _, _, _⟩) rfl _ _ _ rfl A 0 rfl (mcs hm) rfl _ _ hAa (fitM HK.out) (mcs_one _) (sz_msg HK.out) ?_); intro v1 hAb oA sA; try simp only [Act.put, List.setIfInBounds_toArray, List.set_cons_zero, List.set_cons_succ]; refine Pf.pause ?_; try simp only [Act.put, List.setIfInBounds_toArray, List.set_cons_zero, List.set_cons_succ]))
  have lA : w.heap.size ≤ A := by have := Ae.out; omega
  have bA : Below w.heap.size w v1 := below_only nA.below oA lA nA.below.size
  have rrA : Row v1 A 42 (mcs hm) := hAb.congr (allM HK.out)
  have geA : w.heap.size ≤ A := lA
  have lAx := lA
  clear hAa hAb nA oA sA Ae lA
  have bel_2 : Below w.heap.size w v1 := bA
  clear bA
  refine Pf.go_on ?_
  go_wp2_with (first
    | ((with_reducible refine at_slot 15 ?_); (refine arm_load (o := ⟨some 15, _, _, _, _, _⟩) rfl _ _ rfl A 0 rfl (mcs hm) ((Has.refl _).range rrA) SH.out ?_); try simp only [Act.put, List.setIfInBounds_toArray, List.set_cons_zero, List.set_cons_succ]))
  refine (CB1.out _).mono ?_
  rintro e y3 ⟨⟨q1, c1, rfl, hO⟩, hB⟩
  have A_4 : Row y3 A 42 (mcs hm) := rrA.old hB
  have bel_4 : Below w.heap.size w y3 := below_step bel_2 bel_2.size hB
  clear rrA bel_2 hB
  have hOq := own_mono hO (Nat.zero_le _); clear hO
  go_wp2_with fail
  refine (CD1.out q1 c1 _ hOq).mono ?_
  rintro e y5 ⟨rfl, hB⟩
  have A_6 : Row y5 A 42 (mcs hm) := A_4.old hB
  have P_6 : Bt.Own y5 0 q1 c1 [1, 0, 0, 1, 2] := hOq.below hB
  have bel_6 : Below w.heap.size w y5 := below_step bel_4 bel_4.size hB
  clear A_4 hOq bel_4 hB
  go_wp2_with (first
    | ((with_reducible refine at_slot 4 ?_); (refine arm_alloc (o := ⟨some 4, _, _, _, _, _⟩) rfl _ rfl (mcs zm) z_msg ?_); intro C v7a Ce hCa nC; try simp only [Act.put, List.setIfInBounds_toArray, List.set_cons_zero, List.set_cons_succ])
    | ((with_reducible refine arm_store (o := ⟨none, _, _, _, _, _⟩) rfl _ _ _ rfl C 0 rfl (mcs hm) rfl _ _ hCa (fitM HK.out) (mcs_one _) (sz_msg HK.out) ?_); intro v7 hCb oC sC; try simp only [Act.put, List.setIfInBounds_toArray, List.set_cons_zero, List.set_cons_succ]; refine Pf.pause ?_; try simp only [Act.put, List.setIfInBounds_toArray, List.set_cons_zero, List.set_cons_succ]))
  have lC : y5.heap.size ≤ C := by have := Ce.out; omega
  have bC : Below y5.heap.size y5 v7 := below_only nC.below oC lC nC.below.size
  have rrC : Row v7 C 42 (mcs hm) := hCb.congr (allM HK.out)
  have geC : w.heap.size ≤ C := Nat.le_trans bel_6.size lC
  have lCx := lC
  clear hCa hCb nC oC sC Ce lC
  have A_8 : Row v7 A 42 (mcs hm) := A_6.old bC
  have P_8 : Bt.Own v7 0 q1 c1 [1, 0, 0, 1, 2] := P_6.below bC
  have bel_8 : Below w.heap.size w v7 := below_step bel_6 bel_6.size bC
  clear A_6 P_6 bel_6 bC
  refine Pf.go_on ?_
  go_wp2_with (first
    | ((with_reducible refine at_slot 24 ?_); (refine arm_build (o := ⟨some 24, _, _, _, _, _⟩) rfl _ _ rfl (u8s oneH) (by simp only [List.map_toArray, List.map_cons, List.map_nil]; exact built_one) ?_); try simp only [Act.put, List.setIfInBounds_toArray, List.set_cons_zero, List.set_cons_succ]))
  refine (CG.out _).mono ?_
  rintro e y9 ⟨rfl, hB⟩
  have A_10 : Row y9 A 42 (mcs hm) := A_8.old hB
  have P_10 : Bt.Own y9 0 q1 c1 [1, 0, 0, 1, 2] := P_8.below hB
  have C_10 : Row y9 C 42 (mcs hm) := rrC.old hB
  have bel_10 : Below w.heap.size w y9 := below_step bel_8 bel_8.size hB
  clear A_8 P_8 rrC bel_8 hB
  go_wp2_with (first
    | ((with_reducible refine at_slot 26 ?_); (refine arm_build (o := ⟨some 26, _, _, _, _, _⟩) rfl _ _ rfl (mcs tm) (by simp only [List.map_toArray, List.map_cons, List.map_nil]; exact B2.out) ?_); try simp only [Act.put, List.setIfInBounds_toArray, List.set_cons_zero, List.set_cons_succ])
    | ((with_reducible refine at_slot 6 ?_); (refine arm_alloc (o := ⟨some 6, _, _, _, _, _⟩) rfl _ rfl (mcs zm) z_msg ?_); intro T v11a Te hTa nT; try simp only [Act.put, List.setIfInBounds_toArray, List.set_cons_zero, List.set_cons_succ])
    | ((with_reducible refine arm_store (o := ⟨none, _, _, _, _, _⟩) rfl _ _ _ rfl T 0 rfl (mcs tm) rfl _ _ hTa (fitM TK.out) (mcs_one _) (sz_msg TK.out) ?_); intro v11 hTb oT sT; try simp only [Act.put, List.setIfInBounds_toArray, List.set_cons_zero, List.set_cons_succ]; refine Pf.pause ?_; try simp only [Act.put, List.setIfInBounds_toArray, List.set_cons_zero, List.set_cons_succ]))
  have lT : y9.heap.size ≤ T := by have := Te.out; omega
  have bT : Below y9.heap.size y9 v11 := below_only nT.below oT lT nT.below.size
  have rrT : Row v11 T 42 (mcs tm) := hTb.congr (allM TK.out)
  have geT : w.heap.size ≤ T := Nat.le_trans bel_10.size lT
  have lTx := lT
  clear hTa hTb nT oT sT Te lT
  have A_12 : Row v11 A 42 (mcs hm) := A_10.old bT
  have P_12 : Bt.Own v11 0 q1 c1 [1, 0, 0, 1, 2] := P_10.below bT
  have C_12 : Row v11 C 42 (mcs hm) := C_10.old bT
  have bel_12 : Below w.heap.size w v11 := below_step bel_10 bel_10.size bT
  clear A_10 P_10 C_10 bel_10 bT
  refine Pf.go_on ?_
  go_wp2_with (first
    | ((with_reducible refine at_slot 28 ?_); (refine arm_load (o := ⟨some 28, _, _, _, _, _⟩) rfl _ _ rfl T 0 rfl (mcs tm) ((Has.refl _).range rrT) STM.out ?_); try simp only [Act.put, List.setIfInBounds_toArray, List.set_cons_zero, List.set_cons_succ]))
  refine (CB2.out _).mono ?_
  rintro e y13 ⟨⟨q2, c2, rfl, hO⟩, hB⟩
  have A_14 : Row y13 A 42 (mcs hm) := A_12.old hB
  have P_14 : Bt.Own y13 0 q1 c1 [1, 0, 0, 1, 2] := P_12.below hB
  have C_14 : Row y13 C 42 (mcs hm) := C_12.old hB
  have T_14 : Row y13 T 42 (mcs tm) := rrT.old hB
  have bel_14 : Below w.heap.size w y13 := below_step bel_12 bel_12.size hB
  clear A_12 P_12 C_12 rrT bel_12 hB
  have hOr := own_mono hO (Nat.zero_le _); clear hO
  go_wp2_with fail
  refine (CD2.out q2 c2 _ hOr).mono ?_
  rintro e y15 ⟨rfl, hB⟩
  have A_16 : Row y15 A 42 (mcs hm) := A_14.old hB
  have P_16 : Bt.Own y15 0 q1 c1 [1, 0, 0, 1, 2] := P_14.below hB
  have C_16 : Row y15 C 42 (mcs hm) := C_14.old hB
  have T_16 : Row y15 T 42 (mcs tm) := T_14.old hB
  have Q_16 : Bt.Own y15 0 q2 c2 tb := hOr.below hB
  have bel_16 : Below w.heap.size w y15 := below_step bel_14 bel_14.size hB
  clear A_14 P_14 C_14 T_14 hOr bel_14 hB
  go_wp2_with (first
    | ((with_reducible refine at_slot 9 ?_); (refine arm_alloc (o := ⟨some 9, _, _, _, _, _⟩) rfl _ rfl (mcs zm) z_msg ?_); intro U v17a Ue hUa nU; try simp only [Act.put, List.setIfInBounds_toArray, List.set_cons_zero, List.set_cons_succ])
    | ((with_reducible refine arm_store (o := ⟨none, _, _, _, _, _⟩) rfl _ _ _ rfl U 0 rfl (mcs tm) rfl _ _ hUa (fitM TK.out) (mcs_one _) (sz_msg TK.out) ?_); intro v17 hUb oU sU; try simp only [Act.put, List.setIfInBounds_toArray, List.set_cons_zero, List.set_cons_succ]; refine Pf.pause ?_; try simp only [Act.put, List.setIfInBounds_toArray, List.set_cons_zero, List.set_cons_succ]))
  have lU : y15.heap.size ≤ U := by have := Ue.out; omega
  have bU : Below y15.heap.size y15 v17 := below_only nU.below oU lU nU.below.size
  have rrU : Row v17 U 42 (mcs tm) := hUb.congr (allM TK.out)
  have geU : w.heap.size ≤ U := Nat.le_trans bel_16.size lU
  have lUx := lU
  clear hUa hUb nU oU sU Ue lU
  have A_18 : Row v17 A 42 (mcs hm) := A_16.old bU
  have P_18 : Bt.Own v17 0 q1 c1 [1, 0, 0, 1, 2] := P_16.below bU
  have C_18 : Row v17 C 42 (mcs hm) := C_16.old bU
  have T_18 : Row v17 T 42 (mcs tm) := T_16.old bU
  have Q_18 : Bt.Own v17 0 q2 c2 tb := Q_16.below bU
  have bel_18 : Below w.heap.size w v17 := below_step bel_16 bel_16.size bU
  clear A_16 P_16 C_16 T_16 Q_16 bel_16 bU
  refine Pf.go_on ?_
  go_wp2_with (first
    | ((with_reducible refine at_slot 38 ?_); (refine arm_buildSlice (o := ⟨some 38, _, _, _, _, _⟩) rfl 1 _ rfl [.int .u8 9] #[(0, .int .u8 9)] (by simp [Act.eval]) (bs1 _) ?_); intro b19 v19 b19e hv19 nv19; try simp only [Act.put, List.setIfInBounds_toArray, List.set_cons_zero, List.set_cons_succ]; refine Pf.pause ?_; try simp only [Act.put, List.setIfInBounds_toArray, List.set_cons_zero, List.set_cons_succ]))
  refine Pf.go_on ?_
  have gb19 : w.heap.size ≤ b19 := by have := b19e.out; have := bel_18.size; omega
  have ob19 : Bt.Own v19 w.heap.size (some ⟨b19, 0, none⟩) 1 [9] := Tg.own_row (bs := [9]) hv19 gb19 (by simp)
  have hbv19 := nv19.below
  clear hv19 nv19 b19e gb19
  have A_20 : Row v19 A 42 (mcs hm) := A_18.old hbv19
  have P_20 : Bt.Own v19 0 q1 c1 [1, 0, 0, 1, 2] := P_18.below hbv19
  have C_20 : Row v19 C 42 (mcs hm) := C_18.old hbv19
  have T_20 : Row v19 T 42 (mcs tm) := T_18.old hbv19
  have Q_20 : Bt.Own v19 0 q2 c2 tb := Q_18.below hbv19
  have U_20 : Row v19 U 42 (mcs tm) := rrU.old hbv19
  have bel_20 : Below w.heap.size w v19 := below_step bel_18 bel_18.size hbv19
  clear A_18 P_18 C_18 T_18 Q_18 rrU bel_18 hbv19
  go_wp2_with fail
  refine (CD9.out (some ⟨b19, 0, none⟩) 1 _ ob19).mono ?_
  rintro e y21 ⟨rfl, hB⟩
  have A_22 : Row y21 A 42 (mcs hm) := A_20.old hB
  have P_22 : Bt.Own y21 0 q1 c1 [1, 0, 0, 1, 2] := P_20.below hB
  have C_22 : Row y21 C 42 (mcs hm) := C_20.old hB
  have T_22 : Row y21 T 42 (mcs tm) := T_20.old hB
  have Q_22 : Bt.Own y21 0 q2 c2 tb := Q_20.below hB
  have U_22 : Row y21 U 42 (mcs tm) := U_20.old hB
  have bel_22 : Below w.heap.size w y21 := below_step bel_20 bel_20.size hB
  clear A_20 P_20 C_20 T_20 Q_20 U_20 bel_20 hB
  clear Q_22
  go_wp2_with (first
    | ((with_reducible refine at_slot 11 ?_); (refine arm_alloc (o := ⟨some 11, _, _, _, _, _⟩) rfl _ rfl (mcs zm) z_msg ?_); intro V v23a Ve hVa nV; try simp only [Act.put, List.setIfInBounds_toArray, List.set_cons_zero, List.set_cons_succ])
    | ((with_reducible refine arm_store (o := ⟨none, _, _, _, _, _⟩) rfl _ _ _ rfl V 0 rfl (mcs zm) rfl _ _ hVa (fitM zm_ok) (mcs_one _) (sz_msg zm_ok) ?_); intro v23 hVb oV sV; try simp only [Act.put, List.setIfInBounds_toArray, List.set_cons_zero, List.set_cons_succ]; refine Pf.pause ?_; try simp only [Act.put, List.setIfInBounds_toArray, List.set_cons_zero, List.set_cons_succ]))
  have lV : y21.heap.size ≤ V := by have := Ve.out; omega
  have bV : Below y21.heap.size y21 v23 := below_only nV.below oV lV nV.below.size
  have rrV : Row v23 V 42 (mcs zm) := hVb.congr (allM zm_ok)
  have geV : w.heap.size ≤ V := Nat.le_trans bel_22.size lV
  have lVx := lV
  clear hVa hVb nV oV sV Ve lV
  have A_24 : Row v23 A 42 (mcs hm) := A_22.old bV
  have P_24 : Bt.Own v23 0 q1 c1 [1, 0, 0, 1, 2] := P_22.below bV
  have C_24 : Row v23 C 42 (mcs hm) := C_22.old bV
  have T_24 : Row v23 T 42 (mcs tm) := T_22.old bV
  have U_24 : Row v23 U 42 (mcs tm) := U_22.old bV
  have bel_24 : Below w.heap.size w v23 := below_step bel_22 bel_22.size bV
  clear A_22 P_22 C_22 T_22 U_22 bel_22 bV
  refine Pf.go_on ?_
  go_wp2_with (first
    | ((with_reducible refine at_slot 43 ?_); (refine arm_buildSlice (o := ⟨some 43, _, _, _, _, _⟩) rfl 5 _ rfl (u8s [1, 0, 0, 1, 2]) #[(0, .int .u8 1), (1, .int .u8 0), (2, .int .u8 0), (3, .int .u8 1), (4, .int .u8 2)] (by simp [Act.eval]) bs5 ?_); intro b25 v25 b25e hv25 nv25; try simp only [Act.put, List.setIfInBounds_toArray, List.set_cons_zero, List.set_cons_succ]; refine Pf.pause ?_; try simp only [Act.put, List.setIfInBounds_toArray, List.set_cons_zero, List.set_cons_succ]))
  refine Pf.go_on ?_
  have gb25 : w.heap.size ≤ b25 := by have := b25e.out; have := bel_24.size; omega
  have ob25 : Bt.Own v25 w.heap.size (some ⟨b25, 0, none⟩) 5 [1, 0, 0, 1, 2] := Tg.own_row (bs := [1, 0, 0, 1, 2]) hv25 gb25 (by decide)
  have hbv25 := nv25.below
  clear hv25 nv25 b25e gb25
  have A_26 : Row v25 A 42 (mcs hm) := A_24.old hbv25
  have P_26 : Bt.Own v25 0 q1 c1 [1, 0, 0, 1, 2] := P_24.below hbv25
  have C_26 : Row v25 C 42 (mcs hm) := C_24.old hbv25
  have T_26 : Row v25 T 42 (mcs tm) := T_24.old hbv25
  have U_26 : Row v25 U 42 (mcs tm) := U_24.old hbv25
  have V_26 : Row v25 V 42 (mcs zm) := rrV.old hbv25
  have bel_26 : Below w.heap.size w v25 := below_step bel_24 bel_24.size hbv25
  clear A_24 P_24 C_24 T_24 U_24 rrV bel_24 hbv25
  go_wp2_with fail
  refine (CSM.out q1 c1 (some ⟨b25, 0, none⟩) 5 _ P_26 ob25).mono ?_
  rintro e y27 ⟨rfl, hB⟩
  have A_28 : Row y27 A 42 (mcs hm) := A_26.old hB
  have P_28 : Bt.Own y27 0 q1 c1 [1, 0, 0, 1, 2] := P_26.below hB
  have C_28 : Row y27 C 42 (mcs hm) := C_26.old hB
  have T_28 : Row y27 T 42 (mcs tm) := T_26.old hB
  have U_28 : Row y27 U 42 (mcs tm) := U_26.old hB
  have V_28 : Row y27 V 42 (mcs zm) := V_26.old hB
  have bel_28 : Below w.heap.size w y27 := below_step bel_26 bel_26.size hB
  clear A_26 P_26 C_26 T_26 U_26 V_26 bel_26 hB
  clear P_28
  go_wp2_with (first
    | ((with_reducible refine at_slot 50 ?_); (refine arm_want (.agg (mcs hm).toArray) 50 rfl (by kernel_rfl) (run_op_load _ _ rfl C 0 rfl (mcs hm) ((Has.refl _).range C_28) SH.out) ?_); try simp only [Act.put, List.setIfInBounds_toArray, List.set_cons_zero, List.set_cons_succ])
    | ((with_reducible refine at_slot 51 ?_); (refine arm_want (.agg (mcs hm).toArray) 51 rfl (by kernel_rfl) (run_op_load _ _ rfl A 0 rfl (mcs hm) ((Has.refl _).range A_28) SH.out) ?_); try simp only [Act.put, List.setIfInBounds_toArray, List.set_cons_zero, List.set_cons_succ])
    | ((with_reducible refine at_slot 52 ?_); (refine arm_want (.bool true) 52 rfl (by kernel_rfl) (run_op_eqlM HK.out HK.out _ _ _ rfl rfl rfl true (iff_of_true rfl rfl) _) ?_); try simp only [Act.put, List.setIfInBounds_toArray, List.set_cons_zero, List.set_cons_succ])
    | ((with_reducible refine at_slot 68 ?_); (refine arm_want (.agg (mcs tm).toArray) 68 rfl (by kernel_rfl) (run_op_load _ _ rfl U 0 rfl (mcs tm) ((Has.refl _).range U_28) STM.out) ?_); try simp only [Act.put, List.setIfInBounds_toArray, List.set_cons_zero, List.set_cons_succ])
    | ((with_reducible refine at_slot 69 ?_); (refine arm_want (.agg (mcs tm).toArray) 69 rfl (by kernel_rfl) (run_op_load _ _ rfl T 0 rfl (mcs tm) ((Has.refl _).range T_28) STM.out) ?_); try simp only [Act.put, List.setIfInBounds_toArray, List.set_cons_zero, List.set_cons_succ])
    | ((with_reducible refine at_slot 70 ?_); (refine arm_want (.bool true) 70 rfl (by kernel_rfl) (run_op_eqlM TK.out TK.out _ _ _ rfl rfl rfl true (iff_of_true rfl rfl) _) ?_); try simp only [Act.put, List.setIfInBounds_toArray, List.set_cons_zero, List.set_cons_succ])
    | ((with_reducible refine at_slot 81 ?_); (refine arm_want (.agg (mcs hm).toArray) 81 rfl (by kernel_rfl) (run_op_load _ _ rfl A 0 rfl (mcs hm) ((Has.refl _).range A_28) SH.out) ?_); try simp only [Act.put, List.setIfInBounds_toArray, List.set_cons_zero, List.set_cons_succ]))
  refine (CRH.out _).mono ?_
  rintro e y29 ⟨rfl, hB⟩
  have A_30 : Row y29 A 42 (mcs hm) := A_28.old hB
  have C_30 : Row y29 C 42 (mcs hm) := C_28.old hB
  have T_30 : Row y29 T 42 (mcs tm) := T_28.old hB
  have U_30 : Row y29 U 42 (mcs tm) := U_28.old hB
  have V_30 : Row y29 V 42 (mcs zm) := V_28.old hB
  have bel_30 : Below w.heap.size w y29 := below_step bel_28 bel_28.size hB
  clear A_28 C_28 T_28 U_28 V_28 bel_28 hB
  go_wp2_with (first
    | ((with_reducible refine at_slot 85 ?_); (refine arm_want (.agg (mcs zm).toArray) 85 rfl (by kernel_rfl) (run_op_build _ _ rfl (mcs zm) (by simp only [List.map_toArray, List.map_nil]; exact built_m0) _) ?_); try simp only [Act.put, List.setIfInBounds_toArray, List.set_cons_zero, List.set_cons_succ]))
  refine (CRZ.out _).mono ?_
  rintro e y31 ⟨rfl, hB⟩
  have A_32 : Row y31 A 42 (mcs hm) := A_30.old hB
  have C_32 : Row y31 C 42 (mcs hm) := C_30.old hB
  have T_32 : Row y31 T 42 (mcs tm) := T_30.old hB
  have U_32 : Row y31 U 42 (mcs tm) := U_30.old hB
  have V_32 : Row y31 V 42 (mcs zm) := V_30.old hB
  have bel_32 : Below w.heap.size w y31 := below_step bel_30 bel_30.size hB
  clear A_30 C_30 T_30 U_30 V_30 bel_30 hB
  go_wp2_with fail
  go_ret
  exact ⟨rfl, bel_32⟩
end Go.Proofs.Ytghogoijjaiccaa.Ms
