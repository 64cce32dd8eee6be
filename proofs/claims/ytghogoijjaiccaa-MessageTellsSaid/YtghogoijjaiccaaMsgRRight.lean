/-
  The contract of the document's Right of layer 17. Over this seat's translation.
-/
import Derived.Test.YtghogoijjaiccaaMsgRight
import Derived.Test.YtghogoijjaiccaaStaRRight
import Derived.Test.YtghogoijjaiccaaAccAll
namespace Go.Proofs.Ytghogoijjaiccaa.Ms
open Go.ChangeShapes Go.WideShapes Go.ChangeAt Go.RowKit Go.Proofs.Ytghogoijjaiccaa.Mem Go.Proofs.Ytghogoijjaiccaa.Bt Go.Proofs.Ytghogoijjaiccaa.Wi Go.Proofs.Ytghogoijjaiccaa.Ac Go.Proofs.Ytghogoijjaiccaa.Tr Go.Proofs.Ytghogoijjaiccaa.Pf
open Go.Proofs.Ytghogoijjaiccaa.Tg (bytesOf bytesOf_length bytesOf_lt bytesOf_inj Rd Rd.below)
open Go.Proofs.Ytghogoijjaiccaa.Ep (H32 zh zh_ok Has Has.refl Has.left Has.right Has.head Has.get Has.chunk Has.range h_len szH zH fitH allH one_app num32)
open Go.Proofs.Ytghogoijjaiccaa.Sa (Sta scs scs_len scs_one zs zs_ok scs_app staB staB_len SRt rdS rdS_ok sz_sta z_sta sz_rsta z_rsta fitS allS)
set_option linter.unusedVariables false
set_option linter.unusedSimpArgs false

set_option maxHeartbeats 4000000 in
set_option maxRecDepth 100000 in
theorem rmright_any (m : Msg) (w : World) (k : m.Ok) :
    Calls Try.prog 13 #[.agg (mcs m).toArray] w fun e w' => e = .returned (.bool (mrB m)) ∧ Below w.heap.size w w' := by
  have K := Lib.hid k
  have SM := Lib.hid (sz_rmsg k)
  have CK := Lib.hid (m_kind m).get; have CV := Lib.hid (m_ver m).get; have CP := Lib.hid (m_pl k.st).get
  have HS := Lib.hid (m_st m); have HA := Lib.hid (m_acc k.st); have HP := Lib.hid (m_path k.st)
  have ZS : Hid (Has (mcs zm) 2 (scs zs)) := Lib.hid (m_st zm); have ZA : Hid (Has (mcs zm) 366 (acs za)) := Lib.hid (m_acc zm_ok.st); have ZP : Hid (Has (mcs zm) 369 (dgC z4)) := Lib.hid (m_path zm_ok.st)
  have SS := Lib.hid (sz_rsta k.st); have SZ := Lib.hid (sz_rsta zs_ok); have SP := Lib.hid (sz_rpath k.path.ok k.path.len); have S4 := Lib.hid (sz_rpath z4_ok rfl)
  have CA0 := Lib.hid (m_nm k.st).get; have CA1 := Lib.hid (m_bal k.st); have CA2 := Lib.hid (m_non k.st)
  have CZ0 := Lib.hid (m_nm zm_ok.st).get; have CZ1 := Lib.hid (m_bal zm_ok.st); have CZ2 := Lib.hid (m_non zm_ok.st)
  have CS := Lib.hid (fun w0 => Sa.rright_any m.st w0 k.st)
  have CA := Lib.hid (fun w0 => Ac.rright_any m.acc w0)
  have HT := Lib.hid (fun h => @mrB_true m h); have HF := Lib.hid (fun h => @mrB_false m h)
  have FS := Lib.hid (fun h : m.st = zs => (show scs m.st = scs zs by rw [h])); have FS2 := Lib.hid (fun (h : scs m.st = scs zs) => (Sa.cells_inj k.st zs_ok h))
  have HQ : Hid (MRt m ↔ (1 ≤ m.kind ∧ m.kind ≤ 4) ∧ (m.kind ≠ 1 → m.ver = 0) ∧ (m.kind ≠ 2 → m.st = zs) ∧ (m.kind ≠ 4 → m.pl = 0 ∧ m.acc = za ∧ m.path = z4) ∧ (m.kind = 2 → SRt m.st) ∧ (m.kind = 4 → 0 ≤ m.pl ∧ m.pl ≤ 15 ∧ NRt m.acc.nm)) := Lib.hid Iff.rfl
  obtain ⟨q, hq⟩ : ∃ q, q = m.kind := ⟨_, rfl⟩
  rw [← hq] at CK HQ
  clear hq k
  by_cases h1 : q = 1
  · skip
    have hq1 : q = 1 := h1
    have n1 : ((q : Int) != 1) = false := by simp; omega
    have e1 : ((q : Int) == 1) = true := by simp; omega
    have n2 : ((q : Int) != 2) = true := by simp; omega
    have e2 : ((q : Int) == 2) = false := by simp; omega
    have n4 : ((q : Int) != 4) = true := by simp; omega
    have e4 : ((q : Int) == 4) = false := by simp; omega
    have d1 : decide ((q : Int) < 1) = false := decide_eq_false (by omega)
    have d2 : decide ((4 : Int) < (q : Int)) = false := decide_eq_false (by omega)
    clear h1
    by_cases h_st : m.st = zs
    · have ST := Lib.hid h_st
      clear h_st
      by_cases h_pl : m.pl = 0
      · have PL := Lib.hid h_pl
        have v2 : (m.pl != 0) = false := by rw [h_pl]; rfl
        clear h_pl
        by_cases h_acc : m.acc = za
        · have ACC := Lib.hid h_acc
          clear h_acc
          by_cases h_path : m.path = z4
          · have PA := Lib.hid h_path
            clear h_path
            have HR : Hid (mrB m = true) := Lib.hid (HT.out (HQ.out.2 ⟨by omega, fun h => absurd hq1 h, fun _ => ST.out, fun _ => ⟨PL.out, ACC.out, PA.out⟩, fun h => by omega, fun h => by omega⟩))
            rw [HR.out]
            clear hq1 HT HF HQ HR
            go_enter Try.func13, Try.ntmps13
            go_wp2_with (first
              | ((with_reducible refine at_slot 1 ?_); (refine arm_box (o := ⟨some 1, _, _, _, _, _⟩) rfl _ _ rfl (mcs m) rfl ?_); intro X v1 Xe hv1 nv1; try simp only [Act.put, List.setIfInBounds_toArray, List.set_cons_zero, List.set_cons_succ])
              | ((with_reducible refine at_slot 4 ?_); (refine arm_build (o := ⟨some 4, _, _, _, _, _⟩) rfl _ _ rfl (mcs zm) (by simp only [List.map_toArray, List.map_nil]; exact built_r0) ?_); try simp only [Act.put, List.setIfInBounds_toArray, List.set_cons_zero, List.set_cons_succ])
              | ((with_reducible refine at_slot 3 ?_); (refine Pf.pause ?_); try simp only [Act.put, List.setIfInBounds_toArray, List.set_cons_zero, List.set_cons_succ]))
            have hbv1 := nv1.below
            have rrv1 : Row v1 X 59 (mcs m) := hv1
            have geX : w.heap.size ≤ X := by have := Xe.out; omega
            clear hv1 nv1 Xe
            have bel_2 : Below w.heap.size w v1 := hbv1
            clear hbv1
            refine Pf.go_on ?_
            go_wp2_with (first
              | ((with_reducible refine at_slot 3 ?_); (refine arm_alloc (o := ⟨some 3, _, _, _, _, _⟩) rfl _ rfl (mcs zm) z_rmsg ?_); intro Z v3a Ze hZa nZ; try simp only [Act.put, List.setIfInBounds_toArray, List.set_cons_zero, List.set_cons_succ])
              | ((with_reducible refine arm_store (o := ⟨none, _, _, _, _, _⟩) rfl _ _ _ rfl Z 0 rfl (mcs zm) rfl _ _ hZa (fitM zm_ok) (mcs_one _) (sz_rmsg zm_ok) ?_); intro v3 hZb oZ sZ; try simp only [Act.put, List.setIfInBounds_toArray, List.set_cons_zero, List.set_cons_succ]; refine Pf.pause ?_; try simp only [Act.put, List.setIfInBounds_toArray, List.set_cons_zero, List.set_cons_succ]))
            have lZ : v1.heap.size ≤ Z := by have := Ze.out; omega
            have bZ : Below v1.heap.size v1 v3 := below_only nZ.below oZ lZ nZ.below.size
            have rrZ : Row v3 Z 59 (mcs zm) := hZb.congr (allM zm_ok)
            have geZ : w.heap.size ≤ Z := Nat.le_trans bel_2.size lZ
            have neXZ : X ≠ Z := by have := rrv1.lt; omega
            have lZx := lZ
            clear hZa hZb nZ oZ sZ Ze lZ
            have X_4 : Row v3 X 59 (mcs m) := rrv1.old bZ
            have bel_4 : Below w.heap.size w v3 := below_step bel_2 bel_2.size bZ
            clear rrv1 bel_2 bZ
            refine Pf.go_on ?_
            have ck := X_4.cell CK.out
            have cv := X_4.cell CV.out
            have cp := X_4.cell CP.out
            have ca0 := X_4.cell CA0.out
            have ca1 := X_4.cell CA1.out
            have ca2 := X_4.cell CA2.out
            have cz0 := rrZ.cell CZ0.out
            have cz1 := rrZ.cell CZ1.out
            have cz2 := rrZ.cell CZ2.out
            go_wp2_with (first
              | ((with_reducible refine at_slot 27 ?_); (refine arm_want (.agg (scs m.st).toArray) 27 rfl (by kernel_rfl) (run_op_load _ _ rfl X 2 rfl (scs m.st) (HS.out.range X_4) SS.out) ?_); try simp only [Act.put, List.setIfInBounds_toArray, List.set_cons_zero, List.set_cons_succ])
              | ((with_reducible refine at_slot 29 ?_); (refine arm_want (.agg (scs zs).toArray) 29 rfl (by kernel_rfl) (run_op_load _ _ rfl Z 2 rfl (scs zs) (ZS.out.range rrZ) SZ.out) ?_); try simp only [Act.put, List.setIfInBounds_toArray, List.set_cons_zero, List.set_cons_succ])
              | ((with_reducible refine at_slot 30 ?_); (refine arm_want (.bool false) 30 rfl (by kernel_rfl) (run_op_neqRS' K.out.st zs_ok _ _ _ rfl rfl rfl true (iff_of_true rfl (FS.out ST.out)) _) ?_); try simp only [Act.put, List.setIfInBounds_toArray, List.set_cons_zero, List.set_cons_succ])
              | ((with_reducible refine at_slot 42 ?_); (refine arm_want (.agg (acs m.acc).toArray) 42 rfl (by kernel_rfl) (run_op_load _ _ rfl X 366 rfl (acs m.acc) (HA.out.range X_4) (sz_racc _)) ?_); try simp only [Act.put, List.setIfInBounds_toArray, List.set_cons_zero, List.set_cons_succ])
              | ((with_reducible refine at_slot 44 ?_); (refine arm_want (.agg (acs za).toArray) 44 rfl (by kernel_rfl) (run_op_load _ _ rfl Z 366 rfl (acs za) (ZA.out.range rrZ) (sz_racc _)) ?_); try simp only [Act.put, List.setIfInBounds_toArray, List.set_cons_zero, List.set_cons_succ])
              | ((with_reducible refine at_slot 45 ?_); (refine arm_want (.bool false) 45 rfl (by kernel_rfl) (run_op_neqRA _ _ _ rfl m.acc za rfl rfl true (iff_of_true rfl ACC.out) _) ?_); try simp only [Act.put, List.setIfInBounds_toArray, List.set_cons_zero, List.set_cons_succ])
              | ((with_reducible refine at_slot 49 ?_); (refine arm_want (.agg (dgC m.path).toArray) 49 rfl (by kernel_rfl) (run_op_load _ _ rfl X 369 rfl (dgC m.path) (HP.out.range X_4) SP.out) ?_); try simp only [Act.put, List.setIfInBounds_toArray, List.set_cons_zero, List.set_cons_succ])
              | ((with_reducible refine at_slot 51 ?_); (refine arm_want (.agg (dgC z4).toArray) 51 rfl (by kernel_rfl) (run_op_load _ _ rfl Z 369 rfl (dgC z4) (ZP.out.range rrZ) S4.out) ?_); try simp only [Act.put, List.setIfInBounds_toArray, List.set_cons_zero, List.set_cons_succ])
              | ((with_reducible refine at_slot 52 ?_); (refine arm_want (.bool false) 52 rfl (by kernel_rfl) (run_op_neqP K.out.path.ok z4_ok K.out.path.len rfl _ (by kernel_rfl) (by kernel_rfl) _ _ _ rfl rfl rfl true (iff_of_true rfl PA.out) _) ?_); try simp only [Act.put, List.setIfInBounds_toArray, List.set_cons_zero, List.set_cons_succ]))
            go_ret
            exact ⟨rfl, bel_4⟩
          · have PA := Lib.hid h_path
            have HR : Hid (mrB m = false) := Lib.hid (HF.out (fun h => PA.out (((HQ.out.1 h).2.2.2.1 (by omega)).2.2)))
            rw [HR.out]
            clear h_path hq1 HT HF HQ HR
            go_enter Try.func13, Try.ntmps13
            go_wp2_with (first
              | ((with_reducible refine at_slot 1 ?_); (refine arm_box (o := ⟨some 1, _, _, _, _, _⟩) rfl _ _ rfl (mcs m) rfl ?_); intro X v1 Xe hv1 nv1; try simp only [Act.put, List.setIfInBounds_toArray, List.set_cons_zero, List.set_cons_succ])
              | ((with_reducible refine at_slot 4 ?_); (refine arm_build (o := ⟨some 4, _, _, _, _, _⟩) rfl _ _ rfl (mcs zm) (by simp only [List.map_toArray, List.map_nil]; exact built_r0) ?_); try simp only [Act.put, List.setIfInBounds_toArray, List.set_cons_zero, List.set_cons_succ])
              | ((with_reducible refine at_slot 3 ?_); (refine Pf.pause ?_); try simp only [Act.put, List.setIfInBounds_toArray, List.set_cons_zero, List.set_cons_succ]))
            have hbv1 := nv1.below
            have rrv1 : Row v1 X 59 (mcs m) := hv1
            have geX : w.heap.size ≤ X := by have := Xe.out; omega
            clear hv1 nv1 Xe
            have bel_2 : Below w.heap.size w v1 := hbv1
            clear hbv1
            refine Pf.go_on ?_
            go_wp2_with (first
              | ((with_reducible refine at_slot 3 ?_); (refine arm_alloc (o := ⟨some 3, _, _, _, _, _⟩) rfl _ rfl (mcs zm) z_rmsg ?_); intro Z v3a Ze hZa nZ; try simp only [Act.put, List.setIfInBounds_toArray, List.set_cons_zero, List.set_cons_succ])
              | ((with_reducible refine arm_store (o := ⟨none, _, _, _, _, _⟩) rfl _ _ _ rfl Z 0 rfl (mcs zm) rfl _ _ hZa (fitM zm_ok) (mcs_one _) (sz_rmsg zm_ok) ?_); intro v3 hZb oZ sZ; try simp only [Act.put, List.setIfInBounds_toArray, List.set_cons_zero, List.set_cons_succ]; refine Pf.pause ?_; try simp only [Act.put, List.setIfInBounds_toArray, List.set_cons_zero, List.set_cons_succ]))
            have lZ : v1.heap.size ≤ Z := by have := Ze.out; omega
            have bZ : Below v1.heap.size v1 v3 := below_only nZ.below oZ lZ nZ.below.size
            have rrZ : Row v3 Z 59 (mcs zm) := hZb.congr (allM zm_ok)
            have geZ : w.heap.size ≤ Z := Nat.le_trans bel_2.size lZ
            have neXZ : X ≠ Z := by have := rrv1.lt; omega
            have lZx := lZ
            clear hZa hZb nZ oZ sZ Ze lZ
            have X_4 : Row v3 X 59 (mcs m) := rrv1.old bZ
            have bel_4 : Below w.heap.size w v3 := below_step bel_2 bel_2.size bZ
            clear rrv1 bel_2 bZ
            refine Pf.go_on ?_
            have ck := X_4.cell CK.out
            have cv := X_4.cell CV.out
            have cp := X_4.cell CP.out
            have ca0 := X_4.cell CA0.out
            have ca1 := X_4.cell CA1.out
            have ca2 := X_4.cell CA2.out
            have cz0 := rrZ.cell CZ0.out
            have cz1 := rrZ.cell CZ1.out
            have cz2 := rrZ.cell CZ2.out
            go_wp2_with (first
              | ((with_reducible refine at_slot 27 ?_); (refine arm_want (.agg (scs m.st).toArray) 27 rfl (by kernel_rfl) (run_op_load _ _ rfl X 2 rfl (scs m.st) (HS.out.range X_4) SS.out) ?_); try simp only [Act.put, List.setIfInBounds_toArray, List.set_cons_zero, List.set_cons_succ])
              | ((with_reducible refine at_slot 29 ?_); (refine arm_want (.agg (scs zs).toArray) 29 rfl (by kernel_rfl) (run_op_load _ _ rfl Z 2 rfl (scs zs) (ZS.out.range rrZ) SZ.out) ?_); try simp only [Act.put, List.setIfInBounds_toArray, List.set_cons_zero, List.set_cons_succ])
              | ((with_reducible refine at_slot 30 ?_); (refine arm_want (.bool false) 30 rfl (by kernel_rfl) (run_op_neqRS' K.out.st zs_ok _ _ _ rfl rfl rfl true (iff_of_true rfl (FS.out ST.out)) _) ?_); try simp only [Act.put, List.setIfInBounds_toArray, List.set_cons_zero, List.set_cons_succ])
              | ((with_reducible refine at_slot 42 ?_); (refine arm_want (.agg (acs m.acc).toArray) 42 rfl (by kernel_rfl) (run_op_load _ _ rfl X 366 rfl (acs m.acc) (HA.out.range X_4) (sz_racc _)) ?_); try simp only [Act.put, List.setIfInBounds_toArray, List.set_cons_zero, List.set_cons_succ])
              | ((with_reducible refine at_slot 44 ?_); (refine arm_want (.agg (acs za).toArray) 44 rfl (by kernel_rfl) (run_op_load _ _ rfl Z 366 rfl (acs za) (ZA.out.range rrZ) (sz_racc _)) ?_); try simp only [Act.put, List.setIfInBounds_toArray, List.set_cons_zero, List.set_cons_succ])
              | ((with_reducible refine at_slot 45 ?_); (refine arm_want (.bool false) 45 rfl (by kernel_rfl) (run_op_neqRA _ _ _ rfl m.acc za rfl rfl true (iff_of_true rfl ACC.out) _) ?_); try simp only [Act.put, List.setIfInBounds_toArray, List.set_cons_zero, List.set_cons_succ])
              | ((with_reducible refine at_slot 49 ?_); (refine arm_want (.agg (dgC m.path).toArray) 49 rfl (by kernel_rfl) (run_op_load _ _ rfl X 369 rfl (dgC m.path) (HP.out.range X_4) SP.out) ?_); try simp only [Act.put, List.setIfInBounds_toArray, List.set_cons_zero, List.set_cons_succ])
              | ((with_reducible refine at_slot 51 ?_); (refine arm_want (.agg (dgC z4).toArray) 51 rfl (by kernel_rfl) (run_op_load _ _ rfl Z 369 rfl (dgC z4) (ZP.out.range rrZ) S4.out) ?_); try simp only [Act.put, List.setIfInBounds_toArray, List.set_cons_zero, List.set_cons_succ])
              | ((with_reducible refine at_slot 52 ?_); (refine arm_want (.bool true) 52 rfl (by kernel_rfl) (run_op_neqP K.out.path.ok z4_ok K.out.path.len rfl _ (by kernel_rfl) (by kernel_rfl) _ _ _ rfl rfl rfl false (iff_of_false Bool.false_ne_true PA.out) _) ?_); try simp only [Act.put, List.setIfInBounds_toArray, List.set_cons_zero, List.set_cons_succ]))
            go_ret
            exact ⟨rfl, bel_4⟩
        · have ACC := Lib.hid h_acc
          have HR : Hid (mrB m = false) := Lib.hid (HF.out (fun h => ACC.out (((HQ.out.1 h).2.2.2.1 (by omega)).2.1)))
          rw [HR.out]
          clear h_acc hq1 HT HF HQ HR
          go_enter Try.func13, Try.ntmps13
          go_wp2_with (first
            | ((with_reducible refine at_slot 1 ?_); (refine arm_box (o := ⟨some 1, _, _, _, _, _⟩) rfl _ _ rfl (mcs m) rfl ?_); intro X v1 Xe hv1 nv1; try simp only [Act.put, List.setIfInBounds_toArray, List.set_cons_zero, List.set_cons_succ])
            | ((with_reducible refine at_slot 4 ?_); (refine arm_build (o := ⟨some 4, _, _, _, _, _⟩) rfl _ _ rfl (mcs zm) (by simp only [List.map_toArray, List.map_nil]; exact built_r0) ?_); try simp only [Act.put, List.setIfInBounds_toArray, List.set_cons_zero, List.set_cons_succ])
            | ((with_reducible refine at_slot 3 ?_); (refine Pf.pause ?_); try simp only [Act.put, List.setIfInBounds_toArray, List.set_cons_zero, List.set_cons_succ]))
          have hbv1 := nv1.below
          have rrv1 : Row v1 X 59 (mcs m) := hv1
          have geX : w.heap.size ≤ X := by have := Xe.out; omega
          clear hv1 nv1 Xe
          have bel_2 : Below w.heap.size w v1 := hbv1
          clear hbv1
          refine Pf.go_on ?_
          go_wp2_with (first
            | ((with_reducible refine at_slot 3 ?_); (refine arm_alloc (o := ⟨some 3, _, _, _, _, _⟩) rfl _ rfl (mcs zm) z_rmsg ?_); intro Z v3a Ze hZa nZ; try simp only [Act.put, List.setIfInBounds_toArray, List.set_cons_zero, List.set_cons_succ])
            | ((with_reducible refine arm_store (o := ⟨none, _, _, _, _, _⟩) rfl _ _ _ rfl Z 0 rfl (mcs zm) rfl _ _ hZa (fitM zm_ok) (mcs_one _) (sz_rmsg zm_ok) ?_); intro v3 hZb oZ sZ; try simp only [Act.put, List.setIfInBounds_toArray, List.set_cons_zero, List.set_cons_succ]; refine Pf.pause ?_; try simp only [Act.put, List.setIfInBounds_toArray, List.set_cons_zero, List.set_cons_succ]))
          have lZ : v1.heap.size ≤ Z := by have := Ze.out; omega
          have bZ : Below v1.heap.size v1 v3 := below_only nZ.below oZ lZ nZ.below.size
          have rrZ : Row v3 Z 59 (mcs zm) := hZb.congr (allM zm_ok)
          have geZ : w.heap.size ≤ Z := Nat.le_trans bel_2.size lZ
          have neXZ : X ≠ Z := by have := rrv1.lt; omega
          have lZx := lZ
          clear hZa hZb nZ oZ sZ Ze lZ
          have X_4 : Row v3 X 59 (mcs m) := rrv1.old bZ
          have bel_4 : Below w.heap.size w v3 := below_step bel_2 bel_2.size bZ
          clear rrv1 bel_2 bZ
          refine Pf.go_on ?_
          have ck := X_4.cell CK.out
          have cv := X_4.cell CV.out
          have cp := X_4.cell CP.out
          have ca0 := X_4.cell CA0.out
          have ca1 := X_4.cell CA1.out
          have ca2 := X_4.cell CA2.out
          have cz0 := rrZ.cell CZ0.out
          have cz1 := rrZ.cell CZ1.out
          have cz2 := rrZ.cell CZ2.out
          go_wp2_with (first
            | ((with_reducible refine at_slot 27 ?_); (refine arm_want (.agg (scs m.st).toArray) 27 rfl (by kernel_rfl) (run_op_load _ _ rfl X 2 rfl (scs m.st) (HS.out.range X_4) SS.out) ?_); try simp only [Act.put, List.setIfInBounds_toArray, List.set_cons_zero, List.set_cons_succ])
            | ((with_reducible refine at_slot 29 ?_); (refine arm_want (.agg (scs zs).toArray) 29 rfl (by kernel_rfl) (run_op_load _ _ rfl Z 2 rfl (scs zs) (ZS.out.range rrZ) SZ.out) ?_); try simp only [Act.put, List.setIfInBounds_toArray, List.set_cons_zero, List.set_cons_succ])
            | ((with_reducible refine at_slot 30 ?_); (refine arm_want (.bool false) 30 rfl (by kernel_rfl) (run_op_neqRS' K.out.st zs_ok _ _ _ rfl rfl rfl true (iff_of_true rfl (FS.out ST.out)) _) ?_); try simp only [Act.put, List.setIfInBounds_toArray, List.set_cons_zero, List.set_cons_succ])
            | ((with_reducible refine at_slot 42 ?_); (refine arm_want (.agg (acs m.acc).toArray) 42 rfl (by kernel_rfl) (run_op_load _ _ rfl X 366 rfl (acs m.acc) (HA.out.range X_4) (sz_racc _)) ?_); try simp only [Act.put, List.setIfInBounds_toArray, List.set_cons_zero, List.set_cons_succ])
            | ((with_reducible refine at_slot 44 ?_); (refine arm_want (.agg (acs za).toArray) 44 rfl (by kernel_rfl) (run_op_load _ _ rfl Z 366 rfl (acs za) (ZA.out.range rrZ) (sz_racc _)) ?_); try simp only [Act.put, List.setIfInBounds_toArray, List.set_cons_zero, List.set_cons_succ])
            | ((with_reducible refine at_slot 45 ?_); (refine arm_want (.bool true) 45 rfl (by kernel_rfl) (run_op_neqRA _ _ _ rfl m.acc za rfl rfl false (iff_of_false Bool.false_ne_true ACC.out) _) ?_); try simp only [Act.put, List.setIfInBounds_toArray, List.set_cons_zero, List.set_cons_succ]))
          go_ret
          exact ⟨rfl, bel_4⟩
      · have PL := Lib.hid h_pl
        have HR : Hid (mrB m = false) := Lib.hid (HF.out (fun h => PL.out (((HQ.out.1 h).2.2.2.1 (by omega)).1)))
        rw [HR.out]
        have v2 : (m.pl != 0) = true := by simp; omega
        clear h_pl hq1 HT HF HQ HR
        go_enter Try.func13, Try.ntmps13
        go_wp2_with (first
          | ((with_reducible refine at_slot 1 ?_); (refine arm_box (o := ⟨some 1, _, _, _, _, _⟩) rfl _ _ rfl (mcs m) rfl ?_); intro X v1 Xe hv1 nv1; try simp only [Act.put, List.setIfInBounds_toArray, List.set_cons_zero, List.set_cons_succ])
          | ((with_reducible refine at_slot 4 ?_); (refine arm_build (o := ⟨some 4, _, _, _, _, _⟩) rfl _ _ rfl (mcs zm) (by simp only [List.map_toArray, List.map_nil]; exact built_r0) ?_); try simp only [Act.put, List.setIfInBounds_toArray, List.set_cons_zero, List.set_cons_succ])
          | ((with_reducible refine at_slot 3 ?_); (refine Pf.pause ?_); try simp only [Act.put, List.setIfInBounds_toArray, List.set_cons_zero, List.set_cons_succ]))
        have hbv1 := nv1.below
        have rrv1 : Row v1 X 59 (mcs m) := hv1
        have geX : w.heap.size ≤ X := by have := Xe.out; omega
        clear hv1 nv1 Xe
        have bel_2 : Below w.heap.size w v1 := hbv1
        clear hbv1
        refine Pf.go_on ?_
        go_wp2_with (first
          | ((with_reducible refine at_slot 3 ?_); (refine arm_alloc (o := ⟨some 3, _, _, _, _, _⟩) rfl _ rfl (mcs zm) z_rmsg ?_); intro Z v3a Ze hZa nZ; try simp only [Act.put, List.setIfInBounds_toArray, List.set_cons_zero, List.set_cons_succ])
          | ((with_reducible refine arm_store (o := ⟨none, _, _, _, _, _⟩) rfl _ _ _ rfl Z 0 rfl (mcs zm) rfl _ _ hZa (fitM zm_ok) (mcs_one _) (sz_rmsg zm_ok) ?_); intro v3 hZb oZ sZ; try simp only [Act.put, List.setIfInBounds_toArray, List.set_cons_zero, List.set_cons_succ]; refine Pf.pause ?_; try simp only [Act.put, List.setIfInBounds_toArray, List.set_cons_zero, List.set_cons_succ]))
        have lZ : v1.heap.size ≤ Z := by have := Ze.out; omega
        have bZ : Below v1.heap.size v1 v3 := below_only nZ.below oZ lZ nZ.below.size
        have rrZ : Row v3 Z 59 (mcs zm) := hZb.congr (allM zm_ok)
        have geZ : w.heap.size ≤ Z := Nat.le_trans bel_2.size lZ
        have neXZ : X ≠ Z := by have := rrv1.lt; omega
        have lZx := lZ
        clear hZa hZb nZ oZ sZ Ze lZ
        have X_4 : Row v3 X 59 (mcs m) := rrv1.old bZ
        have bel_4 : Below w.heap.size w v3 := below_step bel_2 bel_2.size bZ
        clear rrv1 bel_2 bZ
        refine Pf.go_on ?_
        have ck := X_4.cell CK.out
        have cv := X_4.cell CV.out
        have cp := X_4.cell CP.out
        have ca0 := X_4.cell CA0.out
        have ca1 := X_4.cell CA1.out
        have ca2 := X_4.cell CA2.out
        have cz0 := rrZ.cell CZ0.out
        have cz1 := rrZ.cell CZ1.out
        have cz2 := rrZ.cell CZ2.out
        go_wp2_with (first
          | ((with_reducible refine at_slot 27 ?_); (refine arm_want (.agg (scs m.st).toArray) 27 rfl (by kernel_rfl) (run_op_load _ _ rfl X 2 rfl (scs m.st) (HS.out.range X_4) SS.out) ?_); try simp only [Act.put, List.setIfInBounds_toArray, List.set_cons_zero, List.set_cons_succ])
          | ((with_reducible refine at_slot 29 ?_); (refine arm_want (.agg (scs zs).toArray) 29 rfl (by kernel_rfl) (run_op_load _ _ rfl Z 2 rfl (scs zs) (ZS.out.range rrZ) SZ.out) ?_); try simp only [Act.put, List.setIfInBounds_toArray, List.set_cons_zero, List.set_cons_succ])
          | ((with_reducible refine at_slot 30 ?_); (refine arm_want (.bool false) 30 rfl (by kernel_rfl) (run_op_neqRS' K.out.st zs_ok _ _ _ rfl rfl rfl true (iff_of_true rfl (FS.out ST.out)) _) ?_); try simp only [Act.put, List.setIfInBounds_toArray, List.set_cons_zero, List.set_cons_succ]))
        go_ret
        exact ⟨rfl, bel_4⟩
    · have ST := Lib.hid h_st
      have HR : Hid (mrB m = false) := Lib.hid (HF.out (fun h => ST.out ((HQ.out.1 h).2.2.1 (by omega))))
      rw [HR.out]
      clear h_st hq1 HT HF HQ HR
      go_enter Try.func13, Try.ntmps13
      go_wp2_with (first
        | ((with_reducible refine at_slot 1 ?_); (refine arm_box (o := ⟨some 1, _, _, _, _, _⟩) rfl _ _ rfl (mcs m) rfl ?_); intro X v1 Xe hv1 nv1; try simp only [Act.put, List.setIfInBounds_toArray, List.set_cons_zero, List.set_cons_succ])
        | ((with_reducible refine at_slot 4 ?_); (refine arm_build (o := ⟨some 4, _, _, _, _, _⟩) rfl _ _ rfl (mcs zm) (by simp only [List.map_toArray, List.map_nil]; exact built_r0) ?_); try simp only [Act.put, List.setIfInBounds_toArray, List.set_cons_zero, List.set_cons_succ])
        | ((with_reducible refine at_slot 3 ?_); (refine Pf.pause ?_); try simp only [Act.put, List.setIfInBounds_toArray, List.set_cons_zero, List.set_cons_succ]))
      have hbv1 := nv1.below
      have rrv1 : Row v1 X 59 (mcs m) := hv1
      have geX : w.heap.size ≤ X := by have := Xe.out; omega
      clear hv1 nv1 Xe
      have bel_2 : Below w.heap.size w v1 := hbv1
      clear hbv1
      refine Pf.go_on ?_
      go_wp2_with (first
        | ((with_reducible refine at_slot 3 ?_); (refine arm_alloc (o := ⟨some 3, _, _, _, _, _⟩) rfl _ rfl (mcs zm) z_rmsg ?_); intro Z v3a Ze hZa nZ; try simp only [Act.put, List.setIfInBounds_toArray, List.set_cons_zero, List.set_cons_succ])
        | ((with_reducible refine arm_store (o := ⟨none, _, _, _, _, _⟩) rfl _ _ _ rfl Z 0 rfl (mcs zm) rfl _ _ hZa (fitM zm_ok) (mcs_one _) (sz_rmsg zm_ok) ?_); intro v3 hZb oZ sZ; try simp only [Act.put, List.setIfInBounds_toArray, List.set_cons_zero, List.set_cons_succ]; refine Pf.pause ?_; try simp only [Act.put, List.setIfInBounds_toArray, List.set_cons_zero, List.set_cons_succ]))
      have lZ : v1.heap.size ≤ Z := by have := Ze.out; omega
      have bZ : Below v1.heap.size v1 v3 := below_only nZ.below oZ lZ nZ.below.size
      have rrZ : Row v3 Z 59 (mcs zm) := hZb.congr (allM zm_ok)
      have geZ : w.heap.size ≤ Z := Nat.le_trans bel_2.size lZ
      have neXZ : X ≠ Z := by have := rrv1.lt; omega
      have lZx := lZ
      clear hZa hZb nZ oZ sZ Ze lZ
      have X_4 : Row v3 X 59 (mcs m) := rrv1.old bZ
      have bel_4 : Below w.heap.size w v3 := below_step bel_2 bel_2.size bZ
      clear rrv1 bel_2 bZ
      refine Pf.go_on ?_
      have ck := X_4.cell CK.out
      have cv := X_4.cell CV.out
      have cp := X_4.cell CP.out
      have ca0 := X_4.cell CA0.out
      have ca1 := X_4.cell CA1.out
      have ca2 := X_4.cell CA2.out
      have cz0 := rrZ.cell CZ0.out
      have cz1 := rrZ.cell CZ1.out
      have cz2 := rrZ.cell CZ2.out
      go_wp2_with (first
        | ((with_reducible refine at_slot 27 ?_); (refine arm_want (.agg (scs m.st).toArray) 27 rfl (by kernel_rfl) (run_op_load _ _ rfl X 2 rfl (scs m.st) (HS.out.range X_4) SS.out) ?_); try simp only [Act.put, List.setIfInBounds_toArray, List.set_cons_zero, List.set_cons_succ])
        | ((with_reducible refine at_slot 29 ?_); (refine arm_want (.agg (scs zs).toArray) 29 rfl (by kernel_rfl) (run_op_load _ _ rfl Z 2 rfl (scs zs) (ZS.out.range rrZ) SZ.out) ?_); try simp only [Act.put, List.setIfInBounds_toArray, List.set_cons_zero, List.set_cons_succ])
        | ((with_reducible refine at_slot 30 ?_); (refine arm_want (.bool true) 30 rfl (by kernel_rfl) (run_op_neqRS' K.out.st zs_ok _ _ _ rfl rfl rfl false (iff_of_false Bool.false_ne_true (fun h => ST.out (FS2.out h))) _) ?_); try simp only [Act.put, List.setIfInBounds_toArray, List.set_cons_zero, List.set_cons_succ]))
      go_ret
      exact ⟨rfl, bel_4⟩
  by_cases h2 : q = 2
  · skip
    have hq1 : q = 2 := h2
    have n1 : ((q : Int) != 1) = true := by simp; omega
    have e1 : ((q : Int) == 1) = false := by simp; omega
    have n2 : ((q : Int) != 2) = false := by simp; omega
    have e2 : ((q : Int) == 2) = true := by simp; omega
    have n4 : ((q : Int) != 4) = true := by simp; omega
    have e4 : ((q : Int) == 4) = false := by simp; omega
    have d1 : decide ((q : Int) < 1) = false := decide_eq_false (by omega)
    have d2 : decide ((4 : Int) < (q : Int)) = false := decide_eq_false (by omega)
    clear h1 h2
    by_cases h_ver : m.ver = 0
    · have VE := Lib.hid h_ver
      have v1 : ((m.ver : Int) != 0) = false := by rw [h_ver]; rfl
      clear h_ver
      by_cases h_pl : m.pl = 0
      · have PL := Lib.hid h_pl
        have v2 : (m.pl != 0) = false := by rw [h_pl]; rfl
        clear h_pl
        by_cases h_acc : m.acc = za
        · have ACC := Lib.hid h_acc
          clear h_acc
          by_cases h_path : m.path = z4
          · have PA := Lib.hid h_path
            clear h_path
            have HR : Hid (mrB m = decide (SRt m.st)) := Lib.hid (by
              by_cases hs : SRt m.st
              · rw [HT.out (HQ.out.2 ⟨by omega, fun _ => VE.out, fun h => absurd hq1 h, fun _ => ⟨PL.out, ACC.out, PA.out⟩, fun _ => hs, fun h => by omega⟩), decide_eq_true hs]
              · rw [HF.out (fun h => hs ((HQ.out.1 h).2.2.2.2.1 hq1)), decide_eq_false hs])
            rw [HR.out]
            generalize decide (SRt m.st) = b at CS ⊢
            clear hq1 HT HF HQ HR
            go_enter Try.func13, Try.ntmps13
            go_wp2_with (first
              | ((with_reducible refine at_slot 1 ?_); (refine arm_box (o := ⟨some 1, _, _, _, _, _⟩) rfl _ _ rfl (mcs m) rfl ?_); intro X v1 Xe hv1 nv1; try simp only [Act.put, List.setIfInBounds_toArray, List.set_cons_zero, List.set_cons_succ])
              | ((with_reducible refine at_slot 4 ?_); (refine arm_build (o := ⟨some 4, _, _, _, _, _⟩) rfl _ _ rfl (mcs zm) (by simp only [List.map_toArray, List.map_nil]; exact built_r0) ?_); try simp only [Act.put, List.setIfInBounds_toArray, List.set_cons_zero, List.set_cons_succ])
              | ((with_reducible refine at_slot 3 ?_); (refine Pf.pause ?_); try simp only [Act.put, List.setIfInBounds_toArray, List.set_cons_zero, List.set_cons_succ]))
            have hbv1 := nv1.below
            have rrv1 : Row v1 X 59 (mcs m) := hv1
            have geX : w.heap.size ≤ X := by have := Xe.out; omega
            clear hv1 nv1 Xe
            have bel_2 : Below w.heap.size w v1 := hbv1
            clear hbv1
            refine Pf.go_on ?_
            go_wp2_with (first
              | ((with_reducible refine at_slot 3 ?_); (refine arm_alloc (o := ⟨some 3, _, _, _, _, _⟩) rfl _ rfl (mcs zm) z_rmsg ?_); intro Z v3a Ze hZa nZ; try simp only [Act.put, List.setIfInBounds_toArray, List.set_cons_zero, List.set_cons_succ])
              | ((with_reducible refine arm_store (o := ⟨none, _, _, _, _, _⟩) rfl _ _ _ rfl Z 0 rfl (mcs zm) rfl _ _ hZa (fitM zm_ok) (mcs_one _) (sz_rmsg zm_ok) ?_); intro v3 hZb oZ sZ; try simp only [Act.put, List.setIfInBounds_toArray, List.set_cons_zero, List.set_cons_succ]; refine Pf.pause ?_; try simp only [Act.put, List.setIfInBounds_toArray, List.set_cons_zero, List.set_cons_succ]))
            have lZ : v1.heap.size ≤ Z := by have := Ze.out; omega
            have bZ : Below v1.heap.size v1 v3 := below_only nZ.below oZ lZ nZ.below.size
            have rrZ : Row v3 Z 59 (mcs zm) := hZb.congr (allM zm_ok)
            have geZ : w.heap.size ≤ Z := Nat.le_trans bel_2.size lZ
            have neXZ : X ≠ Z := by have := rrv1.lt; omega
            have lZx := lZ
            clear hZa hZb nZ oZ sZ Ze lZ
            have X_4 : Row v3 X 59 (mcs m) := rrv1.old bZ
            have bel_4 : Below w.heap.size w v3 := below_step bel_2 bel_2.size bZ
            clear rrv1 bel_2 bZ
            refine Pf.go_on ?_
            have ck := X_4.cell CK.out
            have cv := X_4.cell CV.out
            have cp := X_4.cell CP.out
            have ca0 := X_4.cell CA0.out
            have ca1 := X_4.cell CA1.out
            have ca2 := X_4.cell CA2.out
            have cz0 := rrZ.cell CZ0.out
            have cz1 := rrZ.cell CZ1.out
            have cz2 := rrZ.cell CZ2.out
            go_wp2_with (first
              | ((with_reducible refine at_slot 42 ?_); (refine arm_want (.agg (acs m.acc).toArray) 42 rfl (by kernel_rfl) (run_op_load _ _ rfl X 366 rfl (acs m.acc) (HA.out.range X_4) (sz_racc _)) ?_); try simp only [Act.put, List.setIfInBounds_toArray, List.set_cons_zero, List.set_cons_succ])
              | ((with_reducible refine at_slot 44 ?_); (refine arm_want (.agg (acs za).toArray) 44 rfl (by kernel_rfl) (run_op_load _ _ rfl Z 366 rfl (acs za) (ZA.out.range rrZ) (sz_racc _)) ?_); try simp only [Act.put, List.setIfInBounds_toArray, List.set_cons_zero, List.set_cons_succ])
              | ((with_reducible refine at_slot 45 ?_); (refine arm_want (.bool false) 45 rfl (by kernel_rfl) (run_op_neqRA _ _ _ rfl m.acc za rfl rfl true (iff_of_true rfl ACC.out) _) ?_); try simp only [Act.put, List.setIfInBounds_toArray, List.set_cons_zero, List.set_cons_succ])
              | ((with_reducible refine at_slot 49 ?_); (refine arm_want (.agg (dgC m.path).toArray) 49 rfl (by kernel_rfl) (run_op_load _ _ rfl X 369 rfl (dgC m.path) (HP.out.range X_4) SP.out) ?_); try simp only [Act.put, List.setIfInBounds_toArray, List.set_cons_zero, List.set_cons_succ])
              | ((with_reducible refine at_slot 51 ?_); (refine arm_want (.agg (dgC z4).toArray) 51 rfl (by kernel_rfl) (run_op_load _ _ rfl Z 369 rfl (dgC z4) (ZP.out.range rrZ) S4.out) ?_); try simp only [Act.put, List.setIfInBounds_toArray, List.set_cons_zero, List.set_cons_succ])
              | ((with_reducible refine at_slot 52 ?_); (refine arm_want (.bool false) 52 rfl (by kernel_rfl) (run_op_neqP K.out.path.ok z4_ok K.out.path.len rfl _ (by kernel_rfl) (by kernel_rfl) _ _ _ rfl rfl rfl true (iff_of_true rfl PA.out) _) ?_); try simp only [Act.put, List.setIfInBounds_toArray, List.set_cons_zero, List.set_cons_succ])
              | ((with_reducible refine at_slot 59 ?_); (refine arm_load (o := ⟨some 59, _, _, _, _, _⟩) rfl _ _ rfl X 2 rfl (scs m.st) (HS.out.range X_4) SS.out ?_); try simp only [Act.put, List.setIfInBounds_toArray, List.set_cons_zero, List.set_cons_succ]))
            clear ck cv cp ca0 ca1 ca2 cz0 cz1 cz2
            refine (CS.out _).mono ?_
            rintro e y5 ⟨rfl, hB⟩
            have X_6 : Row y5 X 59 (mcs m) := X_4.old hB
            have Z_6 : Row y5 Z 59 (mcs zm) := rrZ.old hB
            have bel_6 : Below w.heap.size w y5 := below_step bel_4 bel_4.size hB
            clear X_4 rrZ bel_4 hB
            go_wp2_with fail
            go_ret
            exact ⟨rfl, bel_6⟩
          · have PA := Lib.hid h_path
            have HR : Hid (mrB m = false) := Lib.hid (HF.out (fun h => PA.out (((HQ.out.1 h).2.2.2.1 (by omega)).2.2)))
            rw [HR.out]
            clear h_path hq1 HT HF HQ HR
            go_enter Try.func13, Try.ntmps13
            go_wp2_with (first
              | ((with_reducible refine at_slot 1 ?_); (refine arm_box (o := ⟨some 1, _, _, _, _, _⟩) rfl _ _ rfl (mcs m) rfl ?_); intro X v1 Xe hv1 nv1; try simp only [Act.put, List.setIfInBounds_toArray, List.set_cons_zero, List.set_cons_succ])
              | ((with_reducible refine at_slot 4 ?_); (refine arm_build (o := ⟨some 4, _, _, _, _, _⟩) rfl _ _ rfl (mcs zm) (by simp only [List.map_toArray, List.map_nil]; exact built_r0) ?_); try simp only [Act.put, List.setIfInBounds_toArray, List.set_cons_zero, List.set_cons_succ])
              | ((with_reducible refine at_slot 3 ?_); (refine Pf.pause ?_); try simp only [Act.put, List.setIfInBounds_toArray, List.set_cons_zero, List.set_cons_succ]))
            have hbv1 := nv1.below
            have rrv1 : Row v1 X 59 (mcs m) := hv1
            have geX : w.heap.size ≤ X := by have := Xe.out; omega
            clear hv1 nv1 Xe
            have bel_2 : Below w.heap.size w v1 := hbv1
            clear hbv1
            refine Pf.go_on ?_
            go_wp2_with (first
              | ((with_reducible refine at_slot 3 ?_); (refine arm_alloc (o := ⟨some 3, _, _, _, _, _⟩) rfl _ rfl (mcs zm) z_rmsg ?_); intro Z v3a Ze hZa nZ; try simp only [Act.put, List.setIfInBounds_toArray, List.set_cons_zero, List.set_cons_succ])
              | ((with_reducible refine arm_store (o := ⟨none, _, _, _, _, _⟩) rfl _ _ _ rfl Z 0 rfl (mcs zm) rfl _ _ hZa (fitM zm_ok) (mcs_one _) (sz_rmsg zm_ok) ?_); intro v3 hZb oZ sZ; try simp only [Act.put, List.setIfInBounds_toArray, List.set_cons_zero, List.set_cons_succ]; refine Pf.pause ?_; try simp only [Act.put, List.setIfInBounds_toArray, List.set_cons_zero, List.set_cons_succ]))
            have lZ : v1.heap.size ≤ Z := by have := Ze.out; omega
            have bZ : Below v1.heap.size v1 v3 := below_only nZ.below oZ lZ nZ.below.size
            have rrZ : Row v3 Z 59 (mcs zm) := hZb.congr (allM zm_ok)
            have geZ : w.heap.size ≤ Z := Nat.le_trans bel_2.size lZ
            have neXZ : X ≠ Z := by have := rrv1.lt; omega
            have lZx := lZ
            clear hZa hZb nZ oZ sZ Ze lZ
            have X_4 : Row v3 X 59 (mcs m) := rrv1.old bZ
            have bel_4 : Below w.heap.size w v3 := below_step bel_2 bel_2.size bZ
            clear rrv1 bel_2 bZ
            refine Pf.go_on ?_
            have ck := X_4.cell CK.out
            have cv := X_4.cell CV.out
            have cp := X_4.cell CP.out
            have ca0 := X_4.cell CA0.out
            have ca1 := X_4.cell CA1.out
            have ca2 := X_4.cell CA2.out
            have cz0 := rrZ.cell CZ0.out
            have cz1 := rrZ.cell CZ1.out
            have cz2 := rrZ.cell CZ2.out
            go_wp2_with (first
              | ((with_reducible refine at_slot 42 ?_); (refine arm_want (.agg (acs m.acc).toArray) 42 rfl (by kernel_rfl) (run_op_load _ _ rfl X 366 rfl (acs m.acc) (HA.out.range X_4) (sz_racc _)) ?_); try simp only [Act.put, List.setIfInBounds_toArray, List.set_cons_zero, List.set_cons_succ])
              | ((with_reducible refine at_slot 44 ?_); (refine arm_want (.agg (acs za).toArray) 44 rfl (by kernel_rfl) (run_op_load _ _ rfl Z 366 rfl (acs za) (ZA.out.range rrZ) (sz_racc _)) ?_); try simp only [Act.put, List.setIfInBounds_toArray, List.set_cons_zero, List.set_cons_succ])
              | ((with_reducible refine at_slot 45 ?_); (refine arm_want (.bool false) 45 rfl (by kernel_rfl) (run_op_neqRA _ _ _ rfl m.acc za rfl rfl true (iff_of_true rfl ACC.out) _) ?_); try simp only [Act.put, List.setIfInBounds_toArray, List.set_cons_zero, List.set_cons_succ])
              | ((with_reducible refine at_slot 49 ?_); (refine arm_want (.agg (dgC m.path).toArray) 49 rfl (by kernel_rfl) (run_op_load _ _ rfl X 369 rfl (dgC m.path) (HP.out.range X_4) SP.out) ?_); try simp only [Act.put, List.setIfInBounds_toArray, List.set_cons_zero, List.set_cons_succ])
              | ((with_reducible refine at_slot 51 ?_); (refine arm_want (.agg (dgC z4).toArray) 51 rfl (by kernel_rfl) (run_op_load _ _ rfl Z 369 rfl (dgC z4) (ZP.out.range rrZ) S4.out) ?_); try simp only [Act.put, List.setIfInBounds_toArray, List.set_cons_zero, List.set_cons_succ])
              | ((with_reducible refine at_slot 52 ?_); (refine arm_want (.bool true) 52 rfl (by kernel_rfl) (run_op_neqP K.out.path.ok z4_ok K.out.path.len rfl _ (by kernel_rfl) (by kernel_rfl) _ _ _ rfl rfl rfl false (iff_of_false Bool.false_ne_true PA.out) _) ?_); try simp only [Act.put, List.setIfInBounds_toArray, List.set_cons_zero, List.set_cons_succ]))
            go_ret
            exact ⟨rfl, bel_4⟩
        · have ACC := Lib.hid h_acc
          have HR : Hid (mrB m = false) := Lib.hid (HF.out (fun h => ACC.out (((HQ.out.1 h).2.2.2.1 (by omega)).2.1)))
          rw [HR.out]
          clear h_acc hq1 HT HF HQ HR
          go_enter Try.func13, Try.ntmps13
          go_wp2_with (first
            | ((with_reducible refine at_slot 1 ?_); (refine arm_box (o := ⟨some 1, _, _, _, _, _⟩) rfl _ _ rfl (mcs m) rfl ?_); intro X v1 Xe hv1 nv1; try simp only [Act.put, List.setIfInBounds_toArray, List.set_cons_zero, List.set_cons_succ])
            | ((with_reducible refine at_slot 4 ?_); (refine arm_build (o := ⟨some 4, _, _, _, _, _⟩) rfl _ _ rfl (mcs zm) (by simp only [List.map_toArray, List.map_nil]; exact built_r0) ?_); try simp only [Act.put, List.setIfInBounds_toArray, List.set_cons_zero, List.set_cons_succ])
            | ((with_reducible refine at_slot 3 ?_); (refine Pf.pause ?_); try simp only [Act.put, List.setIfInBounds_toArray, List.set_cons_zero, List.set_cons_succ]))
          have hbv1 := nv1.below
          have rrv1 : Row v1 X 59 (mcs m) := hv1
          have geX : w.heap.size ≤ X := by have := Xe.out; omega
          clear hv1 nv1 Xe
          have bel_2 : Below w.heap.size w v1 := hbv1
          clear hbv1
          refine Pf.go_on ?_
          go_wp2_with (first
            | ((with_reducible refine at_slot 3 ?_); (refine arm_alloc (o := ⟨some 3, _, _, _, _, _⟩) rfl _ rfl (mcs zm) z_rmsg ?_); intro Z v3a Ze hZa nZ; try simp only [Act.put, List.setIfInBounds_toArray, List.set_cons_zero, List.set_cons_succ])
            | ((with_reducible refine arm_store (o := ⟨none, _, _, _, _, _⟩) rfl _ _ _ rfl Z 0 rfl (mcs zm) rfl _ _ hZa (fitM zm_ok) (mcs_one _) (sz_rmsg zm_ok) ?_); intro v3 hZb oZ sZ; try simp only [Act.put, List.setIfInBounds_toArray, List.set_cons_zero, List.set_cons_succ]; refine Pf.pause ?_; try simp only [Act.put, List.setIfInBounds_toArray, List.set_cons_zero, List.set_cons_succ]))
          have lZ : v1.heap.size ≤ Z := by have := Ze.out; omega
          have bZ : Below v1.heap.size v1 v3 := below_only nZ.below oZ lZ nZ.below.size
          have rrZ : Row v3 Z 59 (mcs zm) := hZb.congr (allM zm_ok)
          have geZ : w.heap.size ≤ Z := Nat.le_trans bel_2.size lZ
          have neXZ : X ≠ Z := by have := rrv1.lt; omega
          have lZx := lZ
          clear hZa hZb nZ oZ sZ Ze lZ
          have X_4 : Row v3 X 59 (mcs m) := rrv1.old bZ
          have bel_4 : Below w.heap.size w v3 := below_step bel_2 bel_2.size bZ
          clear rrv1 bel_2 bZ
          refine Pf.go_on ?_
          have ck := X_4.cell CK.out
          have cv := X_4.cell CV.out
          have cp := X_4.cell CP.out
          have ca0 := X_4.cell CA0.out
          have ca1 := X_4.cell CA1.out
          have ca2 := X_4.cell CA2.out
          have cz0 := rrZ.cell CZ0.out
          have cz1 := rrZ.cell CZ1.out
          have cz2 := rrZ.cell CZ2.out
          go_wp2_with (first
            | ((with_reducible refine at_slot 42 ?_); (refine arm_want (.agg (acs m.acc).toArray) 42 rfl (by kernel_rfl) (run_op_load _ _ rfl X 366 rfl (acs m.acc) (HA.out.range X_4) (sz_racc _)) ?_); try simp only [Act.put, List.setIfInBounds_toArray, List.set_cons_zero, List.set_cons_succ])
            | ((with_reducible refine at_slot 44 ?_); (refine arm_want (.agg (acs za).toArray) 44 rfl (by kernel_rfl) (run_op_load _ _ rfl Z 366 rfl (acs za) (ZA.out.range rrZ) (sz_racc _)) ?_); try simp only [Act.put, List.setIfInBounds_toArray, List.set_cons_zero, List.set_cons_succ])
            | ((with_reducible refine at_slot 45 ?_); (refine arm_want (.bool true) 45 rfl (by kernel_rfl) (run_op_neqRA _ _ _ rfl m.acc za rfl rfl false (iff_of_false Bool.false_ne_true ACC.out) _) ?_); try simp only [Act.put, List.setIfInBounds_toArray, List.set_cons_zero, List.set_cons_succ]))
          go_ret
          exact ⟨rfl, bel_4⟩
      · have PL := Lib.hid h_pl
        have HR : Hid (mrB m = false) := Lib.hid (HF.out (fun h => PL.out (((HQ.out.1 h).2.2.2.1 (by omega)).1)))
        rw [HR.out]
        have v2 : (m.pl != 0) = true := by simp; omega
        clear h_pl hq1 HT HF HQ HR
        go_enter Try.func13, Try.ntmps13
        go_wp2_with (first
          | ((with_reducible refine at_slot 1 ?_); (refine arm_box (o := ⟨some 1, _, _, _, _, _⟩) rfl _ _ rfl (mcs m) rfl ?_); intro X v1 Xe hv1 nv1; try simp only [Act.put, List.setIfInBounds_toArray, List.set_cons_zero, List.set_cons_succ])
          | ((with_reducible refine at_slot 4 ?_); (refine arm_build (o := ⟨some 4, _, _, _, _, _⟩) rfl _ _ rfl (mcs zm) (by simp only [List.map_toArray, List.map_nil]; exact built_r0) ?_); try simp only [Act.put, List.setIfInBounds_toArray, List.set_cons_zero, List.set_cons_succ])
          | ((with_reducible refine at_slot 3 ?_); (refine Pf.pause ?_); try simp only [Act.put, List.setIfInBounds_toArray, List.set_cons_zero, List.set_cons_succ]))
        have hbv1 := nv1.below
        have rrv1 : Row v1 X 59 (mcs m) := hv1
        have geX : w.heap.size ≤ X := by have := Xe.out; omega
        clear hv1 nv1 Xe
        have bel_2 : Below w.heap.size w v1 := hbv1
        clear hbv1
        refine Pf.go_on ?_
        go_wp2_with (first
          | ((with_reducible refine at_slot 3 ?_); (refine arm_alloc (o := ⟨some 3, _, _, _, _, _⟩) rfl _ rfl (mcs zm) z_rmsg ?_); intro Z v3a Ze hZa nZ; try simp only [Act.put, List.setIfInBounds_toArray, List.set_cons_zero, List.set_cons_succ])
          | ((with_reducible refine arm_store (o := ⟨none, _, _, _, _, _⟩) rfl _ _ _ rfl Z 0 rfl (mcs zm) rfl _ _ hZa (fitM zm_ok) (mcs_one _) (sz_rmsg zm_ok) ?_); intro v3 hZb oZ sZ; try simp only [Act.put, List.setIfInBounds_toArray, List.set_cons_zero, List.set_cons_succ]; refine Pf.pause ?_; try simp only [Act.put, List.setIfInBounds_toArray, List.set_cons_zero, List.set_cons_succ]))
        have lZ : v1.heap.size ≤ Z := by have := Ze.out; omega
        have bZ : Below v1.heap.size v1 v3 := below_only nZ.below oZ lZ nZ.below.size
        have rrZ : Row v3 Z 59 (mcs zm) := hZb.congr (allM zm_ok)
        have geZ : w.heap.size ≤ Z := Nat.le_trans bel_2.size lZ
        have neXZ : X ≠ Z := by have := rrv1.lt; omega
        have lZx := lZ
        clear hZa hZb nZ oZ sZ Ze lZ
        have X_4 : Row v3 X 59 (mcs m) := rrv1.old bZ
        have bel_4 : Below w.heap.size w v3 := below_step bel_2 bel_2.size bZ
        clear rrv1 bel_2 bZ
        refine Pf.go_on ?_
        have ck := X_4.cell CK.out
        have cv := X_4.cell CV.out
        have cp := X_4.cell CP.out
        have ca0 := X_4.cell CA0.out
        have ca1 := X_4.cell CA1.out
        have ca2 := X_4.cell CA2.out
        have cz0 := rrZ.cell CZ0.out
        have cz1 := rrZ.cell CZ1.out
        have cz2 := rrZ.cell CZ2.out
        go_wp2_with fail
        go_ret
        exact ⟨rfl, bel_4⟩
    · have VE := Lib.hid h_ver
      have HR : Hid (mrB m = false) := Lib.hid (HF.out (fun h => VE.out ((HQ.out.1 h).2.1 (by omega))))
      rw [HR.out]
      have v1 : ((m.ver : Int) != 0) = true := by simp; omega
      clear h_ver hq1 HT HF HQ HR
      go_enter Try.func13, Try.ntmps13
      go_wp2_with (first
        | ((with_reducible refine at_slot 1 ?_); (refine arm_box (o := ⟨some 1, _, _, _, _, _⟩) rfl _ _ rfl (mcs m) rfl ?_); intro X v1 Xe hv1 nv1; try simp only [Act.put, List.setIfInBounds_toArray, List.set_cons_zero, List.set_cons_succ])
        | ((with_reducible refine at_slot 4 ?_); (refine arm_build (o := ⟨some 4, _, _, _, _, _⟩) rfl _ _ rfl (mcs zm) (by simp only [List.map_toArray, List.map_nil]; exact built_r0) ?_); try simp only [Act.put, List.setIfInBounds_toArray, List.set_cons_zero, List.set_cons_succ])
        | ((with_reducible refine at_slot 3 ?_); (refine Pf.pause ?_); try simp only [Act.put, List.setIfInBounds_toArray, List.set_cons_zero, List.set_cons_succ]))
      have hbv1 := nv1.below
      have rrv1 : Row v1 X 59 (mcs m) := hv1
      have geX : w.heap.size ≤ X := by have := Xe.out; omega
      clear hv1 nv1 Xe
      have bel_2 : Below w.heap.size w v1 := hbv1
      clear hbv1
      refine Pf.go_on ?_
      go_wp2_with (first
        | ((with_reducible refine at_slot 3 ?_); (refine arm_alloc (o := ⟨some 3, _, _, _, _, _⟩) rfl _ rfl (mcs zm) z_rmsg ?_); intro Z v3a Ze hZa nZ; try simp only [Act.put, List.setIfInBounds_toArray, List.set_cons_zero, List.set_cons_succ])
        | ((with_reducible refine arm_store (o := ⟨none, _, _, _, _, _⟩) rfl _ _ _ rfl Z 0 rfl (mcs zm) rfl _ _ hZa (fitM zm_ok) (mcs_one _) (sz_rmsg zm_ok) ?_); intro v3 hZb oZ sZ; try simp only [Act.put, List.setIfInBounds_toArray, List.set_cons_zero, List.set_cons_succ]; refine Pf.pause ?_; try simp only [Act.put, List.setIfInBounds_toArray, List.set_cons_zero, List.set_cons_succ]))
      have lZ : v1.heap.size ≤ Z := by have := Ze.out; omega
      have bZ : Below v1.heap.size v1 v3 := below_only nZ.below oZ lZ nZ.below.size
      have rrZ : Row v3 Z 59 (mcs zm) := hZb.congr (allM zm_ok)
      have geZ : w.heap.size ≤ Z := Nat.le_trans bel_2.size lZ
      have neXZ : X ≠ Z := by have := rrv1.lt; omega
      have lZx := lZ
      clear hZa hZb nZ oZ sZ Ze lZ
      have X_4 : Row v3 X 59 (mcs m) := rrv1.old bZ
      have bel_4 : Below w.heap.size w v3 := below_step bel_2 bel_2.size bZ
      clear rrv1 bel_2 bZ
      refine Pf.go_on ?_
      have ck := X_4.cell CK.out
      have cv := X_4.cell CV.out
      have cp := X_4.cell CP.out
      have ca0 := X_4.cell CA0.out
      have ca1 := X_4.cell CA1.out
      have ca2 := X_4.cell CA2.out
      have cz0 := rrZ.cell CZ0.out
      have cz1 := rrZ.cell CZ1.out
      have cz2 := rrZ.cell CZ2.out
      go_wp2_with fail
      go_ret
      exact ⟨rfl, bel_4⟩
  by_cases h3 : q = 3
  · skip
    have hq1 : q = 3 := h3
    have n1 : ((q : Int) != 1) = true := by simp; omega
    have e1 : ((q : Int) == 1) = false := by simp; omega
    have n2 : ((q : Int) != 2) = true := by simp; omega
    have e2 : ((q : Int) == 2) = false := by simp; omega
    have n4 : ((q : Int) != 4) = true := by simp; omega
    have e4 : ((q : Int) == 4) = false := by simp; omega
    have d1 : decide ((q : Int) < 1) = false := decide_eq_false (by omega)
    have d2 : decide ((4 : Int) < (q : Int)) = false := decide_eq_false (by omega)
    clear h1 h2 h3
    by_cases h_ver : m.ver = 0
    · have VE := Lib.hid h_ver
      have v1 : ((m.ver : Int) != 0) = false := by rw [h_ver]; rfl
      clear h_ver
      by_cases h_st : m.st = zs
      · have ST := Lib.hid h_st
        clear h_st
        by_cases h_pl : m.pl = 0
        · have PL := Lib.hid h_pl
          have v2 : (m.pl != 0) = false := by rw [h_pl]; rfl
          clear h_pl
          by_cases h_acc : m.acc = za
          · have ACC := Lib.hid h_acc
            clear h_acc
            by_cases h_path : m.path = z4
            · have PA := Lib.hid h_path
              clear h_path
              have HR : Hid (mrB m = true) := Lib.hid (HT.out (HQ.out.2 ⟨by omega, fun _ => VE.out, fun _ => ST.out, fun _ => ⟨PL.out, ACC.out, PA.out⟩, fun h => by omega, fun h => by omega⟩))
              rw [HR.out]
              clear hq1 HT HF HQ HR
              go_enter Try.func13, Try.ntmps13
              go_wp2_with (first
                | ((with_reducible refine at_slot 1 ?_); (refine arm_box (o := ⟨some 1, _, _, _, _, _⟩) rfl _ _ rfl (mcs m) rfl ?_); intro X v1 Xe hv1 nv1; try simp only [Act.put, List.setIfInBounds_toArray, List.set_cons_zero, List.set_cons_succ])
                | ((with_reducible refine at_slot 4 ?_); (refine arm_build (o := ⟨some 4, _, _, _, _, _⟩) rfl _ _ rfl (mcs zm) (by simp only [List.map_toArray, List.map_nil]; exact built_r0) ?_); try simp only [Act.put, List.setIfInBounds_toArray, List.set_cons_zero, List.set_cons_succ])
                | ((with_reducible refine at_slot 3 ?_); (refine Pf.pause ?_); try simp only [Act.put, List.setIfInBounds_toArray, List.set_cons_zero, List.set_cons_succ]))
              have hbv1 := nv1.below
              have rrv1 : Row v1 X 59 (mcs m) := hv1
              have geX : w.heap.size ≤ X := by have := Xe.out; omega
              clear hv1 nv1 Xe
              have bel_2 : Below w.heap.size w v1 := hbv1
              clear hbv1
              refine Pf.go_on ?_
              go_wp2_with (first
                | ((with_reducible refine at_slot 3 ?_); (refine arm_alloc (o := ⟨some 3, _, _, _, _, _⟩) rfl _ rfl (mcs zm) z_rmsg ?_); intro Z v3a Ze hZa nZ; try simp only [Act.put, List.setIfInBounds_toArray, List.set_cons_zero, List.set_cons_succ])
                | ((with_reducible refine arm_store (o := ⟨none, _, _, _, _, _⟩) rfl _ _ _ rfl Z 0 rfl (mcs zm) rfl _ _ hZa (fitM zm_ok) (mcs_one _) (sz_rmsg zm_ok) ?_); intro v3 hZb oZ sZ; try simp only [Act.put, List.setIfInBounds_toArray, List.set_cons_zero, List.set_cons_succ]; refine Pf.pause ?_; try simp only [Act.put, List.setIfInBounds_toArray, List.set_cons_zero, List.set_cons_succ]))
              have lZ : v1.heap.size ≤ Z := by have := Ze.out; omega
              have bZ : Below v1.heap.size v1 v3 := below_only nZ.below oZ lZ nZ.below.size
              have rrZ : Row v3 Z 59 (mcs zm) := hZb.congr (allM zm_ok)
              have geZ : w.heap.size ≤ Z := Nat.le_trans bel_2.size lZ
              have neXZ : X ≠ Z := by have := rrv1.lt; omega
              have lZx := lZ
              clear hZa hZb nZ oZ sZ Ze lZ
              have X_4 : Row v3 X 59 (mcs m) := rrv1.old bZ
              have bel_4 : Below w.heap.size w v3 := below_step bel_2 bel_2.size bZ
              clear rrv1 bel_2 bZ
              refine Pf.go_on ?_
              have ck := X_4.cell CK.out
              have cv := X_4.cell CV.out
              have cp := X_4.cell CP.out
              have ca0 := X_4.cell CA0.out
              have ca1 := X_4.cell CA1.out
              have ca2 := X_4.cell CA2.out
              have cz0 := rrZ.cell CZ0.out
              have cz1 := rrZ.cell CZ1.out
              have cz2 := rrZ.cell CZ2.out
              go_wp2_with (first
                | ((with_reducible refine at_slot 27 ?_); (refine arm_want (.agg (scs m.st).toArray) 27 rfl (by kernel_rfl) (run_op_load _ _ rfl X 2 rfl (scs m.st) (HS.out.range X_4) SS.out) ?_); try simp only [Act.put, List.setIfInBounds_toArray, List.set_cons_zero, List.set_cons_succ])
                | ((with_reducible refine at_slot 29 ?_); (refine arm_want (.agg (scs zs).toArray) 29 rfl (by kernel_rfl) (run_op_load _ _ rfl Z 2 rfl (scs zs) (ZS.out.range rrZ) SZ.out) ?_); try simp only [Act.put, List.setIfInBounds_toArray, List.set_cons_zero, List.set_cons_succ])
                | ((with_reducible refine at_slot 30 ?_); (refine arm_want (.bool false) 30 rfl (by kernel_rfl) (run_op_neqRS' K.out.st zs_ok _ _ _ rfl rfl rfl true (iff_of_true rfl (FS.out ST.out)) _) ?_); try simp only [Act.put, List.setIfInBounds_toArray, List.set_cons_zero, List.set_cons_succ])
                | ((with_reducible refine at_slot 42 ?_); (refine arm_want (.agg (acs m.acc).toArray) 42 rfl (by kernel_rfl) (run_op_load _ _ rfl X 366 rfl (acs m.acc) (HA.out.range X_4) (sz_racc _)) ?_); try simp only [Act.put, List.setIfInBounds_toArray, List.set_cons_zero, List.set_cons_succ])
                | ((with_reducible refine at_slot 44 ?_); (refine arm_want (.agg (acs za).toArray) 44 rfl (by kernel_rfl) (run_op_load _ _ rfl Z 366 rfl (acs za) (ZA.out.range rrZ) (sz_racc _)) ?_); try simp only [Act.put, List.setIfInBounds_toArray, List.set_cons_zero, List.set_cons_succ])
                | ((with_reducible refine at_slot 45 ?_); (refine arm_want (.bool false) 45 rfl (by kernel_rfl) (run_op_neqRA _ _ _ rfl m.acc za rfl rfl true (iff_of_true rfl ACC.out) _) ?_); try simp only [Act.put, List.setIfInBounds_toArray, List.set_cons_zero, List.set_cons_succ])
                | ((with_reducible refine at_slot 49 ?_); (refine arm_want (.agg (dgC m.path).toArray) 49 rfl (by kernel_rfl) (run_op_load _ _ rfl X 369 rfl (dgC m.path) (HP.out.range X_4) SP.out) ?_); try simp only [Act.put, List.setIfInBounds_toArray, List.set_cons_zero, List.set_cons_succ])
                | ((with_reducible refine at_slot 51 ?_); (refine arm_want (.agg (dgC z4).toArray) 51 rfl (by kernel_rfl) (run_op_load _ _ rfl Z 369 rfl (dgC z4) (ZP.out.range rrZ) S4.out) ?_); try simp only [Act.put, List.setIfInBounds_toArray, List.set_cons_zero, List.set_cons_succ])
                | ((with_reducible refine at_slot 52 ?_); (refine arm_want (.bool false) 52 rfl (by kernel_rfl) (run_op_neqP K.out.path.ok z4_ok K.out.path.len rfl _ (by kernel_rfl) (by kernel_rfl) _ _ _ rfl rfl rfl true (iff_of_true rfl PA.out) _) ?_); try simp only [Act.put, List.setIfInBounds_toArray, List.set_cons_zero, List.set_cons_succ]))
              go_ret
              exact ⟨rfl, bel_4⟩
            · have PA := Lib.hid h_path
              have HR : Hid (mrB m = false) := Lib.hid (HF.out (fun h => PA.out (((HQ.out.1 h).2.2.2.1 (by omega)).2.2)))
              rw [HR.out]
              clear h_path hq1 HT HF HQ HR
              go_enter Try.func13, Try.ntmps13
              go_wp2_with (first
                | ((with_reducible refine at_slot 1 ?_); (refine arm_box (o := ⟨some 1, _, _, _, _, _⟩) rfl _ _ rfl (mcs m) rfl ?_); intro X v1 Xe hv1 nv1; try simp only [Act.put, List.setIfInBounds_toArray, List.set_cons_zero, List.set_cons_succ])
                | ((with_reducible refine at_slot 4 ?_); (refine arm_build (o := ⟨some 4, _, _, _, _, _⟩) rfl _ _ rfl (mcs zm) (by simp only [List.map_toArray, List.map_nil]; exact built_r0) ?_); try simp only [Act.put, List.setIfInBounds_toArray, List.set_cons_zero, List.set_cons_succ])
                | ((with_reducible refine at_slot 3 ?_); (refine Pf.pause ?_); try simp only [Act.put, List.setIfInBounds_toArray, List.set_cons_zero, List.set_cons_succ]))
              have hbv1 := nv1.below
              have rrv1 : Row v1 X 59 (mcs m) := hv1
              have geX : w.heap.size ≤ X := by have := Xe.out; omega
              clear hv1 nv1 Xe
              have bel_2 : Below w.heap.size w v1 := hbv1
              clear hbv1
              refine Pf.go_on ?_
              go_wp2_with (first
                | ((with_reducible refine at_slot 3 ?_); (refine arm_alloc (o := ⟨some 3, _, _, _, _, _⟩) rfl _ rfl (mcs zm) z_rmsg ?_); intro Z v3a Ze hZa nZ; try simp only [Act.put, List.setIfInBounds_toArray, List.set_cons_zero, List.set_cons_succ])
                | ((with_reducible refine arm_store (o := ⟨none, _, _, _, _, _⟩) rfl _ _ _ rfl Z 0 rfl (mcs zm) rfl _ _ hZa (fitM zm_ok) (mcs_one _) (sz_rmsg zm_ok) ?_); intro v3 hZb oZ sZ; try simp only [Act.put, List.setIfInBounds_toArray, List.set_cons_zero, List.set_cons_succ]; refine Pf.pause ?_; try simp only [Act.put, List.setIfInBounds_toArray, List.set_cons_zero, List.set_cons_succ]))
              have lZ : v1.heap.size ≤ Z := by have := Ze.out; omega
              have bZ : Below v1.heap.size v1 v3 := below_only nZ.below oZ lZ nZ.below.size
              have rrZ : Row v3 Z 59 (mcs zm) := hZb.congr (allM zm_ok)
              have geZ : w.heap.size ≤ Z := Nat.le_trans bel_2.size lZ
              have neXZ : X ≠ Z := by have := rrv1.lt; omega
              have lZx := lZ
              clear hZa hZb nZ oZ sZ Ze lZ
              have X_4 : Row v3 X 59 (mcs m) := rrv1.old bZ
              have bel_4 : Below w.heap.size w v3 := below_step bel_2 bel_2.size bZ
              clear rrv1 bel_2 bZ
              refine Pf.go_on ?_
              have ck := X_4.cell CK.out
              have cv := X_4.cell CV.out
              have cp := X_4.cell CP.out
              have ca0 := X_4.cell CA0.out
              have ca1 := X_4.cell CA1.out
              have ca2 := X_4.cell CA2.out
              have cz0 := rrZ.cell CZ0.out
              have cz1 := rrZ.cell CZ1.out
              have cz2 := rrZ.cell CZ2.out
              go_wp2_with (first
                | ((with_reducible refine at_slot 27 ?_); (refine arm_want (.agg (scs m.st).toArray) 27 rfl (by kernel_rfl) (run_op_load _ _ rfl X 2 rfl (scs m.st) (HS.out.range X_4) SS.out) ?_); try simp only [Act.put, List.setIfInBounds_toArray, List.set_cons_zero, List.set_cons_succ])
                | ((with_reducible refine at_slot 29 ?_); (refine arm_want (.agg (scs zs).toArray) 29 rfl (by kernel_rfl) (run_op_load _ _ rfl Z 2 rfl (scs zs) (ZS.out.range rrZ) SZ.out) ?_); try simp only [Act.put, List.setIfInBounds_toArray, List.set_cons_zero, List.set_cons_succ])
                | ((with_reducible refine at_slot 30 ?_); (refine arm_want (.bool false) 30 rfl (by kernel_rfl) (run_op_neqRS' K.out.st zs_ok _ _ _ rfl rfl rfl true (iff_of_true rfl (FS.out ST.out)) _) ?_); try simp only [Act.put, List.setIfInBounds_toArray, List.set_cons_zero, List.set_cons_succ])
                | ((with_reducible refine at_slot 42 ?_); (refine arm_want (.agg (acs m.acc).toArray) 42 rfl (by kernel_rfl) (run_op_load _ _ rfl X 366 rfl (acs m.acc) (HA.out.range X_4) (sz_racc _)) ?_); try simp only [Act.put, List.setIfInBounds_toArray, List.set_cons_zero, List.set_cons_succ])
                | ((with_reducible refine at_slot 44 ?_); (refine arm_want (.agg (acs za).toArray) 44 rfl (by kernel_rfl) (run_op_load _ _ rfl Z 366 rfl (acs za) (ZA.out.range rrZ) (sz_racc _)) ?_); try simp only [Act.put, List.setIfInBounds_toArray, List.set_cons_zero, List.set_cons_succ])
                | ((with_reducible refine at_slot 45 ?_); (refine arm_want (.bool false) 45 rfl (by kernel_rfl) (run_op_neqRA _ _ _ rfl m.acc za rfl rfl true (iff_of_true rfl ACC.out) _) ?_); try simp only [Act.put, List.setIfInBounds_toArray, List.set_cons_zero, List.set_cons_succ])
                | ((with_reducible refine at_slot 49 ?_); (refine arm_want (.agg (dgC m.path).toArray) 49 rfl (by kernel_rfl) (run_op_load _ _ rfl X 369 rfl (dgC m.path) (HP.out.range X_4) SP.out) ?_); try simp only [Act.put, List.setIfInBounds_toArray, List.set_cons_zero, List.set_cons_succ])
                | ((with_reducible refine at_slot 51 ?_); (refine arm_want (.agg (dgC z4).toArray) 51 rfl (by kernel_rfl) (run_op_load _ _ rfl Z 369 rfl (dgC z4) (ZP.out.range rrZ) S4.out) ?_); try simp only [Act.put, List.setIfInBounds_toArray, List.set_cons_zero, List.set_cons_succ])
                | ((with_reducible refine at_slot 52 ?_); (refine arm_want (.bool true) 52 rfl (by kernel_rfl) (run_op_neqP K.out.path.ok z4_ok K.out.path.len rfl _ (by kernel_rfl) (by kernel_rfl) _ _ _ rfl rfl rfl false (iff_of_false Bool.false_ne_true PA.out) _) ?_); try simp only [Act.put, List.setIfInBounds_toArray, List.set_cons_zero, List.set_cons_succ]))
              go_ret
              exact ⟨rfl, bel_4⟩
          · have ACC := Lib.hid h_acc
            have HR : Hid (mrB m = false) := Lib.hid (HF.out (fun h => ACC.out (((HQ.out.1 h).2.2.2.1 (by omega)).2.1)))
            rw [HR.out]
            clear h_acc hq1 HT HF HQ HR
            go_enter Try.func13, Try.ntmps13
            go_wp2_with (first
              | ((with_reducible refine at_slot 1 ?_); (refine arm_box (o := ⟨some 1, _, _, _, _, _⟩) rfl _ _ rfl (mcs m) rfl ?_); intro X v1 Xe hv1 nv1; try simp only [Act.put, List.setIfInBounds_toArray, List.set_cons_zero, List.set_cons_succ])
              | ((with_reducible refine at_slot 4 ?_); (refine arm_build (o := ⟨some 4, _, _, _, _, _⟩) rfl _ _ rfl (mcs zm) (by simp only [List.map_toArray, List.map_nil]; exact built_r0) ?_); try simp only [Act.put, List.setIfInBounds_toArray, List.set_cons_zero, List.set_cons_succ])
              | ((with_reducible refine at_slot 3 ?_); (refine Pf.pause ?_); try simp only [Act.put, List.setIfInBounds_toArray, List.set_cons_zero, List.set_cons_succ]))
            have hbv1 := nv1.below
            have rrv1 : Row v1 X 59 (mcs m) := hv1
            have geX : w.heap.size ≤ X := by have := Xe.out; omega
            clear hv1 nv1 Xe
            have bel_2 : Below w.heap.size w v1 := hbv1
            clear hbv1
            refine Pf.go_on ?_
            go_wp2_with (first
              | ((with_reducible refine at_slot 3 ?_); (refine arm_alloc (o := ⟨some 3, _, _, _, _, _⟩) rfl _ rfl (mcs zm) z_rmsg ?_); intro Z v3a Ze hZa nZ; try simp only [Act.put, List.setIfInBounds_toArray, List.set_cons_zero, List.set_cons_succ])
              | ((with_reducible refine arm_store (o := ⟨none, _, _, _, _, _⟩) rfl _ _ _ rfl Z 0 rfl (mcs zm) rfl _ _ hZa (fitM zm_ok) (mcs_one _) (sz_rmsg zm_ok) ?_); intro v3 hZb oZ sZ; try simp only [Act.put, List.setIfInBounds_toArray, List.set_cons_zero, List.set_cons_succ]; refine Pf.pause ?_; try simp only [Act.put, List.setIfInBounds_toArray, List.set_cons_zero, List.set_cons_succ]))
            have lZ : v1.heap.size ≤ Z := by have := Ze.out; omega
            have bZ : Below v1.heap.size v1 v3 := below_only nZ.below oZ lZ nZ.below.size
            have rrZ : Row v3 Z 59 (mcs zm) := hZb.congr (allM zm_ok)
            have geZ : w.heap.size ≤ Z := Nat.le_trans bel_2.size lZ
            have neXZ : X ≠ Z := by have := rrv1.lt; omega
            have lZx := lZ
            clear hZa hZb nZ oZ sZ Ze lZ
            have X_4 : Row v3 X 59 (mcs m) := rrv1.old bZ
            have bel_4 : Below w.heap.size w v3 := below_step bel_2 bel_2.size bZ
            clear rrv1 bel_2 bZ
            refine Pf.go_on ?_
            have ck := X_4.cell CK.out
            have cv := X_4.cell CV.out
            have cp := X_4.cell CP.out
            have ca0 := X_4.cell CA0.out
            have ca1 := X_4.cell CA1.out
            have ca2 := X_4.cell CA2.out
            have cz0 := rrZ.cell CZ0.out
            have cz1 := rrZ.cell CZ1.out
            have cz2 := rrZ.cell CZ2.out
            go_wp2_with (first
              | ((with_reducible refine at_slot 27 ?_); (refine arm_want (.agg (scs m.st).toArray) 27 rfl (by kernel_rfl) (run_op_load _ _ rfl X 2 rfl (scs m.st) (HS.out.range X_4) SS.out) ?_); try simp only [Act.put, List.setIfInBounds_toArray, List.set_cons_zero, List.set_cons_succ])
              | ((with_reducible refine at_slot 29 ?_); (refine arm_want (.agg (scs zs).toArray) 29 rfl (by kernel_rfl) (run_op_load _ _ rfl Z 2 rfl (scs zs) (ZS.out.range rrZ) SZ.out) ?_); try simp only [Act.put, List.setIfInBounds_toArray, List.set_cons_zero, List.set_cons_succ])
              | ((with_reducible refine at_slot 30 ?_); (refine arm_want (.bool false) 30 rfl (by kernel_rfl) (run_op_neqRS' K.out.st zs_ok _ _ _ rfl rfl rfl true (iff_of_true rfl (FS.out ST.out)) _) ?_); try simp only [Act.put, List.setIfInBounds_toArray, List.set_cons_zero, List.set_cons_succ])
              | ((with_reducible refine at_slot 42 ?_); (refine arm_want (.agg (acs m.acc).toArray) 42 rfl (by kernel_rfl) (run_op_load _ _ rfl X 366 rfl (acs m.acc) (HA.out.range X_4) (sz_racc _)) ?_); try simp only [Act.put, List.setIfInBounds_toArray, List.set_cons_zero, List.set_cons_succ])
              | ((with_reducible refine at_slot 44 ?_); (refine arm_want (.agg (acs za).toArray) 44 rfl (by kernel_rfl) (run_op_load _ _ rfl Z 366 rfl (acs za) (ZA.out.range rrZ) (sz_racc _)) ?_); try simp only [Act.put, List.setIfInBounds_toArray, List.set_cons_zero, List.set_cons_succ])
              | ((with_reducible refine at_slot 45 ?_); (refine arm_want (.bool true) 45 rfl (by kernel_rfl) (run_op_neqRA _ _ _ rfl m.acc za rfl rfl false (iff_of_false Bool.false_ne_true ACC.out) _) ?_); try simp only [Act.put, List.setIfInBounds_toArray, List.set_cons_zero, List.set_cons_succ]))
            go_ret
            exact ⟨rfl, bel_4⟩
        · have PL := Lib.hid h_pl
          have HR : Hid (mrB m = false) := Lib.hid (HF.out (fun h => PL.out (((HQ.out.1 h).2.2.2.1 (by omega)).1)))
          rw [HR.out]
          have v2 : (m.pl != 0) = true := by simp; omega
          clear h_pl hq1 HT HF HQ HR
          go_enter Try.func13, Try.ntmps13
          go_wp2_with (first
            | ((with_reducible refine at_slot 1 ?_); (refine arm_box (o := ⟨some 1, _, _, _, _, _⟩) rfl _ _ rfl (mcs m) rfl ?_); intro X v1 Xe hv1 nv1; try simp only [Act.put, List.setIfInBounds_toArray, List.set_cons_zero, List.set_cons_succ])
            | ((with_reducible refine at_slot 4 ?_); (refine arm_build (o := ⟨some 4, _, _, _, _, _⟩) rfl _ _ rfl (mcs zm) (by simp only [List.map_toArray, List.map_nil]; exact built_r0) ?_); try simp only [Act.put, List.setIfInBounds_toArray, List.set_cons_zero, List.set_cons_succ])
            | ((with_reducible refine at_slot 3 ?_); (refine Pf.pause ?_); try simp only [Act.put, List.setIfInBounds_toArray, List.set_cons_zero, List.set_cons_succ]))
          have hbv1 := nv1.below
          have rrv1 : Row v1 X 59 (mcs m) := hv1
          have geX : w.heap.size ≤ X := by have := Xe.out; omega
          clear hv1 nv1 Xe
          have bel_2 : Below w.heap.size w v1 := hbv1
          clear hbv1
          refine Pf.go_on ?_
          go_wp2_with (first
            | ((with_reducible refine at_slot 3 ?_); (refine arm_alloc (o := ⟨some 3, _, _, _, _, _⟩) rfl _ rfl (mcs zm) z_rmsg ?_); intro Z v3a Ze hZa nZ; try simp only [Act.put, List.setIfInBounds_toArray, List.set_cons_zero, List.set_cons_succ])
            | ((with_reducible refine arm_store (o := ⟨none, _, _, _, _, _⟩) rfl _ _ _ rfl Z 0 rfl (mcs zm) rfl _ _ hZa (fitM zm_ok) (mcs_one _) (sz_rmsg zm_ok) ?_); intro v3 hZb oZ sZ; try simp only [Act.put, List.setIfInBounds_toArray, List.set_cons_zero, List.set_cons_succ]; refine Pf.pause ?_; try simp only [Act.put, List.setIfInBounds_toArray, List.set_cons_zero, List.set_cons_succ]))
          have lZ : v1.heap.size ≤ Z := by have := Ze.out; omega
          have bZ : Below v1.heap.size v1 v3 := below_only nZ.below oZ lZ nZ.below.size
          have rrZ : Row v3 Z 59 (mcs zm) := hZb.congr (allM zm_ok)
          have geZ : w.heap.size ≤ Z := Nat.le_trans bel_2.size lZ
          have neXZ : X ≠ Z := by have := rrv1.lt; omega
          have lZx := lZ
          clear hZa hZb nZ oZ sZ Ze lZ
          have X_4 : Row v3 X 59 (mcs m) := rrv1.old bZ
          have bel_4 : Below w.heap.size w v3 := below_step bel_2 bel_2.size bZ
          clear rrv1 bel_2 bZ
          refine Pf.go_on ?_
          have ck := X_4.cell CK.out
          have cv := X_4.cell CV.out
          have cp := X_4.cell CP.out
          have ca0 := X_4.cell CA0.out
          have ca1 := X_4.cell CA1.out
          have ca2 := X_4.cell CA2.out
          have cz0 := rrZ.cell CZ0.out
          have cz1 := rrZ.cell CZ1.out
          have cz2 := rrZ.cell CZ2.out
          go_wp2_with (first
            | ((with_reducible refine at_slot 27 ?_); (refine arm_want (.agg (scs m.st).toArray) 27 rfl (by kernel_rfl) (run_op_load _ _ rfl X 2 rfl (scs m.st) (HS.out.range X_4) SS.out) ?_); try simp only [Act.put, List.setIfInBounds_toArray, List.set_cons_zero, List.set_cons_succ])
            | ((with_reducible refine at_slot 29 ?_); (refine arm_want (.agg (scs zs).toArray) 29 rfl (by kernel_rfl) (run_op_load _ _ rfl Z 2 rfl (scs zs) (ZS.out.range rrZ) SZ.out) ?_); try simp only [Act.put, List.setIfInBounds_toArray, List.set_cons_zero, List.set_cons_succ])
            | ((with_reducible refine at_slot 30 ?_); (refine arm_want (.bool false) 30 rfl (by kernel_rfl) (run_op_neqRS' K.out.st zs_ok _ _ _ rfl rfl rfl true (iff_of_true rfl (FS.out ST.out)) _) ?_); try simp only [Act.put, List.setIfInBounds_toArray, List.set_cons_zero, List.set_cons_succ]))
          go_ret
          exact ⟨rfl, bel_4⟩
      · have ST := Lib.hid h_st
        have HR : Hid (mrB m = false) := Lib.hid (HF.out (fun h => ST.out ((HQ.out.1 h).2.2.1 (by omega))))
        rw [HR.out]
        clear h_st hq1 HT HF HQ HR
        go_enter Try.func13, Try.ntmps13
        go_wp2_with (first
          | ((with_reducible refine at_slot 1 ?_); (refine arm_box (o := ⟨some 1, _, _, _, _, _⟩) rfl _ _ rfl (mcs m) rfl ?_); intro X v1 Xe hv1 nv1; try simp only [Act.put, List.setIfInBounds_toArray, List.set_cons_zero, List.set_cons_succ])
          | ((with_reducible refine at_slot 4 ?_); (refine arm_build (o := ⟨some 4, _, _, _, _, _⟩) rfl _ _ rfl (mcs zm) (by simp only [List.map_toArray, List.map_nil]; exact built_r0) ?_); try simp only [Act.put, List.setIfInBounds_toArray, List.set_cons_zero, List.set_cons_succ])
          | ((with_reducible refine at_slot 3 ?_); (refine Pf.pause ?_); try simp only [Act.put, List.setIfInBounds_toArray, List.set_cons_zero, List.set_cons_succ]))
        have hbv1 := nv1.below
        have rrv1 : Row v1 X 59 (mcs m) := hv1
        have geX : w.heap.size ≤ X := by have := Xe.out; omega
        clear hv1 nv1 Xe
        have bel_2 : Below w.heap.size w v1 := hbv1
        clear hbv1
        refine Pf.go_on ?_
        go_wp2_with (first
          | ((with_reducible refine at_slot 3 ?_); (refine arm_alloc (o := ⟨some 3, _, _, _, _, _⟩) rfl _ rfl (mcs zm) z_rmsg ?_); intro Z v3a Ze hZa nZ; try simp only [Act.put, List.setIfInBounds_toArray, List.set_cons_zero, List.set_cons_succ])
          | ((with_reducible refine arm_store (o := ⟨none, _, _, _, _, _⟩) rfl _ _ _ rfl Z 0 rfl (mcs zm) rfl _ _ hZa (fitM zm_ok) (mcs_one _) (sz_rmsg zm_ok) ?_); intro v3 hZb oZ sZ; try simp only [Act.put, List.setIfInBounds_toArray, List.set_cons_zero, List.set_cons_succ]; refine Pf.pause ?_; try simp only [Act.put, List.setIfInBounds_toArray, List.set_cons_zero, List.set_cons_succ]))
        have lZ : v1.heap.size ≤ Z := by have := Ze.out; omega
        have bZ : Below v1.heap.size v1 v3 := below_only nZ.below oZ lZ nZ.below.size
        have rrZ : Row v3 Z 59 (mcs zm) := hZb.congr (allM zm_ok)
        have geZ : w.heap.size ≤ Z := Nat.le_trans bel_2.size lZ
        have neXZ : X ≠ Z := by have := rrv1.lt; omega
        have lZx := lZ
        clear hZa hZb nZ oZ sZ Ze lZ
        have X_4 : Row v3 X 59 (mcs m) := rrv1.old bZ
        have bel_4 : Below w.heap.size w v3 := below_step bel_2 bel_2.size bZ
        clear rrv1 bel_2 bZ
        refine Pf.go_on ?_
        have ck := X_4.cell CK.out
        have cv := X_4.cell CV.out
        have cp := X_4.cell CP.out
        have ca0 := X_4.cell CA0.out
        have ca1 := X_4.cell CA1.out
        have ca2 := X_4.cell CA2.out
        have cz0 := rrZ.cell CZ0.out
        have cz1 := rrZ.cell CZ1.out
        have cz2 := rrZ.cell CZ2.out
        go_wp2_with (first
          | ((with_reducible refine at_slot 27 ?_); (refine arm_want (.agg (scs m.st).toArray) 27 rfl (by kernel_rfl) (run_op_load _ _ rfl X 2 rfl (scs m.st) (HS.out.range X_4) SS.out) ?_); try simp only [Act.put, List.setIfInBounds_toArray, List.set_cons_zero, List.set_cons_succ])
          | ((with_reducible refine at_slot 29 ?_); (refine arm_want (.agg (scs zs).toArray) 29 rfl (by kernel_rfl) (run_op_load _ _ rfl Z 2 rfl (scs zs) (ZS.out.range rrZ) SZ.out) ?_); try simp only [Act.put, List.setIfInBounds_toArray, List.set_cons_zero, List.set_cons_succ])
          | ((with_reducible refine at_slot 30 ?_); (refine arm_want (.bool true) 30 rfl (by kernel_rfl) (run_op_neqRS' K.out.st zs_ok _ _ _ rfl rfl rfl false (iff_of_false Bool.false_ne_true (fun h => ST.out (FS2.out h))) _) ?_); try simp only [Act.put, List.setIfInBounds_toArray, List.set_cons_zero, List.set_cons_succ]))
        go_ret
        exact ⟨rfl, bel_4⟩
    · have VE := Lib.hid h_ver
      have HR : Hid (mrB m = false) := Lib.hid (HF.out (fun h => VE.out ((HQ.out.1 h).2.1 (by omega))))
      rw [HR.out]
      have v1 : ((m.ver : Int) != 0) = true := by simp; omega
      clear h_ver hq1 HT HF HQ HR
      go_enter Try.func13, Try.ntmps13
      go_wp2_with (first
        | ((with_reducible refine at_slot 1 ?_); (refine arm_box (o := ⟨some 1, _, _, _, _, _⟩) rfl _ _ rfl (mcs m) rfl ?_); intro X v1 Xe hv1 nv1; try simp only [Act.put, List.setIfInBounds_toArray, List.set_cons_zero, List.set_cons_succ])
        | ((with_reducible refine at_slot 4 ?_); (refine arm_build (o := ⟨some 4, _, _, _, _, _⟩) rfl _ _ rfl (mcs zm) (by simp only [List.map_toArray, List.map_nil]; exact built_r0) ?_); try simp only [Act.put, List.setIfInBounds_toArray, List.set_cons_zero, List.set_cons_succ])
        | ((with_reducible refine at_slot 3 ?_); (refine Pf.pause ?_); try simp only [Act.put, List.setIfInBounds_toArray, List.set_cons_zero, List.set_cons_succ]))
      have hbv1 := nv1.below
      have rrv1 : Row v1 X 59 (mcs m) := hv1
      have geX : w.heap.size ≤ X := by have := Xe.out; omega
      clear hv1 nv1 Xe
      have bel_2 : Below w.heap.size w v1 := hbv1
      clear hbv1
      refine Pf.go_on ?_
      go_wp2_with (first
        | ((with_reducible refine at_slot 3 ?_); (refine arm_alloc (o := ⟨some 3, _, _, _, _, _⟩) rfl _ rfl (mcs zm) z_rmsg ?_); intro Z v3a Ze hZa nZ; try simp only [Act.put, List.setIfInBounds_toArray, List.set_cons_zero, List.set_cons_succ])
        | ((with_reducible refine arm_store (o := ⟨none, _, _, _, _, _⟩) rfl _ _ _ rfl Z 0 rfl (mcs zm) rfl _ _ hZa (fitM zm_ok) (mcs_one _) (sz_rmsg zm_ok) ?_); intro v3 hZb oZ sZ; try simp only [Act.put, List.setIfInBounds_toArray, List.set_cons_zero, List.set_cons_succ]; refine Pf.pause ?_; try simp only [Act.put, List.setIfInBounds_toArray, List.set_cons_zero, List.set_cons_succ]))
      have lZ : v1.heap.size ≤ Z := by have := Ze.out; omega
      have bZ : Below v1.heap.size v1 v3 := below_only nZ.below oZ lZ nZ.below.size
      have rrZ : Row v3 Z 59 (mcs zm) := hZb.congr (allM zm_ok)
      have geZ : w.heap.size ≤ Z := Nat.le_trans bel_2.size lZ
      have neXZ : X ≠ Z := by have := rrv1.lt; omega
      have lZx := lZ
      clear hZa hZb nZ oZ sZ Ze lZ
      have X_4 : Row v3 X 59 (mcs m) := rrv1.old bZ
      have bel_4 : Below w.heap.size w v3 := below_step bel_2 bel_2.size bZ
      clear rrv1 bel_2 bZ
      refine Pf.go_on ?_
      have ck := X_4.cell CK.out
      have cv := X_4.cell CV.out
      have cp := X_4.cell CP.out
      have ca0 := X_4.cell CA0.out
      have ca1 := X_4.cell CA1.out
      have ca2 := X_4.cell CA2.out
      have cz0 := rrZ.cell CZ0.out
      have cz1 := rrZ.cell CZ1.out
      have cz2 := rrZ.cell CZ2.out
      go_wp2_with fail
      go_ret
      exact ⟨rfl, bel_4⟩
  by_cases h4 : q = 4
  · skip
    have hq1 : q = 4 := h4
    have n1 : ((q : Int) != 1) = true := by simp; omega
    have e1 : ((q : Int) == 1) = false := by simp; omega
    have n2 : ((q : Int) != 2) = true := by simp; omega
    have e2 : ((q : Int) == 2) = false := by simp; omega
    have n4 : ((q : Int) != 4) = false := by simp; omega
    have e4 : ((q : Int) == 4) = true := by simp; omega
    have d1 : decide ((q : Int) < 1) = false := decide_eq_false (by omega)
    have d2 : decide ((4 : Int) < (q : Int)) = false := decide_eq_false (by omega)
    clear h1 h2 h3 h4
    by_cases h_ver : m.ver = 0
    · have VE := Lib.hid h_ver
      have v1 : ((m.ver : Int) != 0) = false := by rw [h_ver]; rfl
      clear h_ver
      by_cases h_st : m.st = zs
      · have ST := Lib.hid h_st
        clear h_st
        by_cases hp : 0 ≤ m.pl ∧ m.pl ≤ 15
        · have HR : Hid (mrB m = decide (NRt m.acc.nm)) := Lib.hid (by
              by_cases hn : NRt m.acc.nm
              · rw [HT.out (HQ.out.2 ⟨by omega, fun _ => VE.out, fun _ => ST.out, fun h => absurd hq1 h, fun h => by omega, fun _ => ⟨hp.1, hp.2, hn⟩⟩), decide_eq_true hn]
              · rw [HF.out (fun h => hn ((HQ.out.1 h).2.2.2.2.2 hq1).2.2), decide_eq_false hn])
          rw [HR.out]
          have p1 : decide ((0 : Int) ≤ m.pl) = true := decide_eq_true hp.1
          have p2 : decide (m.pl ≤ 15) = true := decide_eq_true hp.2
          generalize decide (NRt m.acc.nm) = b at CA ⊢
          clear hq1 HT HF HQ HR hp
          go_enter Try.func13, Try.ntmps13
          go_wp2_with (first
            | ((with_reducible refine at_slot 1 ?_); (refine arm_box (o := ⟨some 1, _, _, _, _, _⟩) rfl _ _ rfl (mcs m) rfl ?_); intro X v1 Xe hv1 nv1; try simp only [Act.put, List.setIfInBounds_toArray, List.set_cons_zero, List.set_cons_succ])
            | ((with_reducible refine at_slot 4 ?_); (refine arm_build (o := ⟨some 4, _, _, _, _, _⟩) rfl _ _ rfl (mcs zm) (by simp only [List.map_toArray, List.map_nil]; exact built_r0) ?_); try simp only [Act.put, List.setIfInBounds_toArray, List.set_cons_zero, List.set_cons_succ])
            | ((with_reducible refine at_slot 3 ?_); (refine Pf.pause ?_); try simp only [Act.put, List.setIfInBounds_toArray, List.set_cons_zero, List.set_cons_succ]))
          have hbv1 := nv1.below
          have rrv1 : Row v1 X 59 (mcs m) := hv1
          have geX : w.heap.size ≤ X := by have := Xe.out; omega
          clear hv1 nv1 Xe
          have bel_2 : Below w.heap.size w v1 := hbv1
          clear hbv1
          refine Pf.go_on ?_
          go_wp2_with (first
            | ((with_reducible refine at_slot 3 ?_); (refine arm_alloc (o := ⟨some 3, _, _, _, _, _⟩) rfl _ rfl (mcs zm) z_rmsg ?_); intro Z v3a Ze hZa nZ; try simp only [Act.put, List.setIfInBounds_toArray, List.set_cons_zero, List.set_cons_succ])
            | ((with_reducible refine arm_store (o := ⟨none, _, _, _, _, _⟩) rfl _ _ _ rfl Z 0 rfl (mcs zm) rfl _ _ hZa (fitM zm_ok) (mcs_one _) (sz_rmsg zm_ok) ?_); intro v3 hZb oZ sZ; try simp only [Act.put, List.setIfInBounds_toArray, List.set_cons_zero, List.set_cons_succ]; refine Pf.pause ?_; try simp only [Act.put, List.setIfInBounds_toArray, List.set_cons_zero, List.set_cons_succ]))
          have lZ : v1.heap.size ≤ Z := by have := Ze.out; omega
          have bZ : Below v1.heap.size v1 v3 := below_only nZ.below oZ lZ nZ.below.size
          have rrZ : Row v3 Z 59 (mcs zm) := hZb.congr (allM zm_ok)
          have geZ : w.heap.size ≤ Z := Nat.le_trans bel_2.size lZ
          have neXZ : X ≠ Z := by have := rrv1.lt; omega
          have lZx := lZ
          clear hZa hZb nZ oZ sZ Ze lZ
          have X_4 : Row v3 X 59 (mcs m) := rrv1.old bZ
          have bel_4 : Below w.heap.size w v3 := below_step bel_2 bel_2.size bZ
          clear rrv1 bel_2 bZ
          refine Pf.go_on ?_
          have ck := X_4.cell CK.out
          have cv := X_4.cell CV.out
          have cp := X_4.cell CP.out
          have ca0 := X_4.cell CA0.out
          have ca1 := X_4.cell CA1.out
          have ca2 := X_4.cell CA2.out
          have cz0 := rrZ.cell CZ0.out
          have cz1 := rrZ.cell CZ1.out
          have cz2 := rrZ.cell CZ2.out
          go_wp2_with (first
            | ((with_reducible refine at_slot 27 ?_); (refine arm_want (.agg (scs m.st).toArray) 27 rfl (by kernel_rfl) (run_op_load _ _ rfl X 2 rfl (scs m.st) (HS.out.range X_4) SS.out) ?_); try simp only [Act.put, List.setIfInBounds_toArray, List.set_cons_zero, List.set_cons_succ])
            | ((with_reducible refine at_slot 29 ?_); (refine arm_want (.agg (scs zs).toArray) 29 rfl (by kernel_rfl) (run_op_load _ _ rfl Z 2 rfl (scs zs) (ZS.out.range rrZ) SZ.out) ?_); try simp only [Act.put, List.setIfInBounds_toArray, List.set_cons_zero, List.set_cons_succ])
            | ((with_reducible refine at_slot 30 ?_); (refine arm_want (.bool false) 30 rfl (by kernel_rfl) (run_op_neqRS' K.out.st zs_ok _ _ _ rfl rfl rfl true (iff_of_true rfl (FS.out ST.out)) _) ?_); try simp only [Act.put, List.setIfInBounds_toArray, List.set_cons_zero, List.set_cons_succ]))
          clear ck cv cp ca0 ca1 ca2 cz0 cz1 cz2
          refine (CA.out _).mono ?_
          rintro e y5 ⟨rfl, hB⟩
          have X_6 : Row y5 X 59 (mcs m) := X_4.old hB
          have Z_6 : Row y5 Z 59 (mcs zm) := rrZ.old hB
          have bel_6 : Below w.heap.size w y5 := below_step bel_4 bel_4.size hB
          clear X_4 rrZ bel_4 hB
          go_wp2_with fail
          go_ret
          exact ⟨rfl, bel_6⟩
        · have HR : Hid (mrB m = false) := Lib.hid (HF.out (fun h => hp ⟨((HQ.out.1 h).2.2.2.2.2 hq1).1, ((HQ.out.1 h).2.2.2.2.2 hq1).2.1⟩))
          rw [HR.out]
          by_cases hp1 : 0 ≤ m.pl
          · have p1 : decide ((0 : Int) ≤ m.pl) = true := decide_eq_true hp1
            have p2 : decide (m.pl ≤ 15) = false := decide_eq_false (fun h => hp ⟨hp1, h⟩)
            clear hq1 HT HF HQ HR hp hp1
            go_enter Try.func13, Try.ntmps13
            go_wp2_with (first
              | ((with_reducible refine at_slot 1 ?_); (refine arm_box (o := ⟨some 1, _, _, _, _, _⟩) rfl _ _ rfl (mcs m) rfl ?_); intro X v1 Xe hv1 nv1; try simp only [Act.put, List.setIfInBounds_toArray, List.set_cons_zero, List.set_cons_succ])
              | ((with_reducible refine at_slot 4 ?_); (refine arm_build (o := ⟨some 4, _, _, _, _, _⟩) rfl _ _ rfl (mcs zm) (by simp only [List.map_toArray, List.map_nil]; exact built_r0) ?_); try simp only [Act.put, List.setIfInBounds_toArray, List.set_cons_zero, List.set_cons_succ])
              | ((with_reducible refine at_slot 3 ?_); (refine Pf.pause ?_); try simp only [Act.put, List.setIfInBounds_toArray, List.set_cons_zero, List.set_cons_succ]))
            have hbv1 := nv1.below
            have rrv1 : Row v1 X 59 (mcs m) := hv1
            have geX : w.heap.size ≤ X := by have := Xe.out; omega
            clear hv1 nv1 Xe
            have bel_2 : Below w.heap.size w v1 := hbv1
            clear hbv1
            refine Pf.go_on ?_
            go_wp2_with (first
              | ((with_reducible refine at_slot 3 ?_); (refine arm_alloc (o := ⟨some 3, _, _, _, _, _⟩) rfl _ rfl (mcs zm) z_rmsg ?_); intro Z v3a Ze hZa nZ; try simp only [Act.put, List.setIfInBounds_toArray, List.set_cons_zero, List.set_cons_succ])
              | ((with_reducible refine arm_store (o := ⟨none, _, _, _, _, _⟩) rfl _ _ _ rfl Z 0 rfl (mcs zm) rfl _ _ hZa (fitM zm_ok) (mcs_one _) (sz_rmsg zm_ok) ?_); intro v3 hZb oZ sZ; try simp only [Act.put, List.setIfInBounds_toArray, List.set_cons_zero, List.set_cons_succ]; refine Pf.pause ?_; try simp only [Act.put, List.setIfInBounds_toArray, List.set_cons_zero, List.set_cons_succ]))
            have lZ : v1.heap.size ≤ Z := by have := Ze.out; omega
            have bZ : Below v1.heap.size v1 v3 := below_only nZ.below oZ lZ nZ.below.size
            have rrZ : Row v3 Z 59 (mcs zm) := hZb.congr (allM zm_ok)
            have geZ : w.heap.size ≤ Z := Nat.le_trans bel_2.size lZ
            have neXZ : X ≠ Z := by have := rrv1.lt; omega
            have lZx := lZ
            clear hZa hZb nZ oZ sZ Ze lZ
            have X_4 : Row v3 X 59 (mcs m) := rrv1.old bZ
            have bel_4 : Below w.heap.size w v3 := below_step bel_2 bel_2.size bZ
            clear rrv1 bel_2 bZ
            refine Pf.go_on ?_
            have ck := X_4.cell CK.out
            have cv := X_4.cell CV.out
            have cp := X_4.cell CP.out
            have ca0 := X_4.cell CA0.out
            have ca1 := X_4.cell CA1.out
            have ca2 := X_4.cell CA2.out
            have cz0 := rrZ.cell CZ0.out
            have cz1 := rrZ.cell CZ1.out
            have cz2 := rrZ.cell CZ2.out
            go_wp2_with (first
              | ((with_reducible refine at_slot 27 ?_); (refine arm_want (.agg (scs m.st).toArray) 27 rfl (by kernel_rfl) (run_op_load _ _ rfl X 2 rfl (scs m.st) (HS.out.range X_4) SS.out) ?_); try simp only [Act.put, List.setIfInBounds_toArray, List.set_cons_zero, List.set_cons_succ])
              | ((with_reducible refine at_slot 29 ?_); (refine arm_want (.agg (scs zs).toArray) 29 rfl (by kernel_rfl) (run_op_load _ _ rfl Z 2 rfl (scs zs) (ZS.out.range rrZ) SZ.out) ?_); try simp only [Act.put, List.setIfInBounds_toArray, List.set_cons_zero, List.set_cons_succ])
              | ((with_reducible refine at_slot 30 ?_); (refine arm_want (.bool false) 30 rfl (by kernel_rfl) (run_op_neqRS' K.out.st zs_ok _ _ _ rfl rfl rfl true (iff_of_true rfl (FS.out ST.out)) _) ?_); try simp only [Act.put, List.setIfInBounds_toArray, List.set_cons_zero, List.set_cons_succ]))
            go_ret
            exact ⟨rfl, bel_4⟩
          · have p1 : decide ((0 : Int) ≤ m.pl) = false := decide_eq_false hp1
            clear hq1 HT HF HQ HR hp hp1
            go_enter Try.func13, Try.ntmps13
            go_wp2_with (first
              | ((with_reducible refine at_slot 1 ?_); (refine arm_box (o := ⟨some 1, _, _, _, _, _⟩) rfl _ _ rfl (mcs m) rfl ?_); intro X v1 Xe hv1 nv1; try simp only [Act.put, List.setIfInBounds_toArray, List.set_cons_zero, List.set_cons_succ])
              | ((with_reducible refine at_slot 4 ?_); (refine arm_build (o := ⟨some 4, _, _, _, _, _⟩) rfl _ _ rfl (mcs zm) (by simp only [List.map_toArray, List.map_nil]; exact built_r0) ?_); try simp only [Act.put, List.setIfInBounds_toArray, List.set_cons_zero, List.set_cons_succ])
              | ((with_reducible refine at_slot 3 ?_); (refine Pf.pause ?_); try simp only [Act.put, List.setIfInBounds_toArray, List.set_cons_zero, List.set_cons_succ]))
            have hbv1 := nv1.below
            have rrv1 : Row v1 X 59 (mcs m) := hv1
            have geX : w.heap.size ≤ X := by have := Xe.out; omega
            clear hv1 nv1 Xe
            have bel_2 : Below w.heap.size w v1 := hbv1
            clear hbv1
            refine Pf.go_on ?_
            go_wp2_with (first
              | ((with_reducible refine at_slot 3 ?_); (refine arm_alloc (o := ⟨some 3, _, _, _, _, _⟩) rfl _ rfl (mcs zm) z_rmsg ?_); intro Z v3a Ze hZa nZ; try simp only [Act.put, List.setIfInBounds_toArray, List.set_cons_zero, List.set_cons_succ])
              | ((with_reducible refine arm_store (o := ⟨none, _, _, _, _, _⟩) rfl _ _ _ rfl Z 0 rfl (mcs zm) rfl _ _ hZa (fitM zm_ok) (mcs_one _) (sz_rmsg zm_ok) ?_); intro v3 hZb oZ sZ; try simp only [Act.put, List.setIfInBounds_toArray, List.set_cons_zero, List.set_cons_succ]; refine Pf.pause ?_; try simp only [Act.put, List.setIfInBounds_toArray, List.set_cons_zero, List.set_cons_succ]))
            have lZ : v1.heap.size ≤ Z := by have := Ze.out; omega
            have bZ : Below v1.heap.size v1 v3 := below_only nZ.below oZ lZ nZ.below.size
            have rrZ : Row v3 Z 59 (mcs zm) := hZb.congr (allM zm_ok)
            have geZ : w.heap.size ≤ Z := Nat.le_trans bel_2.size lZ
            have neXZ : X ≠ Z := by have := rrv1.lt; omega
            have lZx := lZ
            clear hZa hZb nZ oZ sZ Ze lZ
            have X_4 : Row v3 X 59 (mcs m) := rrv1.old bZ
            have bel_4 : Below w.heap.size w v3 := below_step bel_2 bel_2.size bZ
            clear rrv1 bel_2 bZ
            refine Pf.go_on ?_
            have ck := X_4.cell CK.out
            have cv := X_4.cell CV.out
            have cp := X_4.cell CP.out
            have ca0 := X_4.cell CA0.out
            have ca1 := X_4.cell CA1.out
            have ca2 := X_4.cell CA2.out
            have cz0 := rrZ.cell CZ0.out
            have cz1 := rrZ.cell CZ1.out
            have cz2 := rrZ.cell CZ2.out
            go_wp2_with (first
              | ((with_reducible refine at_slot 27 ?_); (refine arm_want (.agg (scs m.st).toArray) 27 rfl (by kernel_rfl) (run_op_load _ _ rfl X 2 rfl (scs m.st) (HS.out.range X_4) SS.out) ?_); try simp only [Act.put, List.setIfInBounds_toArray, List.set_cons_zero, List.set_cons_succ])
              | ((with_reducible refine at_slot 29 ?_); (refine arm_want (.agg (scs zs).toArray) 29 rfl (by kernel_rfl) (run_op_load _ _ rfl Z 2 rfl (scs zs) (ZS.out.range rrZ) SZ.out) ?_); try simp only [Act.put, List.setIfInBounds_toArray, List.set_cons_zero, List.set_cons_succ])
              | ((with_reducible refine at_slot 30 ?_); (refine arm_want (.bool false) 30 rfl (by kernel_rfl) (run_op_neqRS' K.out.st zs_ok _ _ _ rfl rfl rfl true (iff_of_true rfl (FS.out ST.out)) _) ?_); try simp only [Act.put, List.setIfInBounds_toArray, List.set_cons_zero, List.set_cons_succ]))
            go_ret
            exact ⟨rfl, bel_4⟩
      · have ST := Lib.hid h_st
        have HR : Hid (mrB m = false) := Lib.hid (HF.out (fun h => ST.out ((HQ.out.1 h).2.2.1 (by omega))))
        rw [HR.out]
        clear h_st hq1 HT HF HQ HR
        go_enter Try.func13, Try.ntmps13
        go_wp2_with (first
          | ((with_reducible refine at_slot 1 ?_); (refine arm_box (o := ⟨some 1, _, _, _, _, _⟩) rfl _ _ rfl (mcs m) rfl ?_); intro X v1 Xe hv1 nv1; try simp only [Act.put, List.setIfInBounds_toArray, List.set_cons_zero, List.set_cons_succ])
          | ((with_reducible refine at_slot 4 ?_); (refine arm_build (o := ⟨some 4, _, _, _, _, _⟩) rfl _ _ rfl (mcs zm) (by simp only [List.map_toArray, List.map_nil]; exact built_r0) ?_); try simp only [Act.put, List.setIfInBounds_toArray, List.set_cons_zero, List.set_cons_succ])
          | ((with_reducible refine at_slot 3 ?_); (refine Pf.pause ?_); try simp only [Act.put, List.setIfInBounds_toArray, List.set_cons_zero, List.set_cons_succ]))
        have hbv1 := nv1.below
        have rrv1 : Row v1 X 59 (mcs m) := hv1
        have geX : w.heap.size ≤ X := by have := Xe.out; omega
        clear hv1 nv1 Xe
        have bel_2 : Below w.heap.size w v1 := hbv1
        clear hbv1
        refine Pf.go_on ?_
        go_wp2_with (first
          | ((with_reducible refine at_slot 3 ?_); (refine arm_alloc (o := ⟨some 3, _, _, _, _, _⟩) rfl _ rfl (mcs zm) z_rmsg ?_); intro Z v3a Ze hZa nZ; try simp only [Act.put, List.setIfInBounds_toArray, List.set_cons_zero, List.set_cons_succ])
          | ((with_reducible refine arm_store (o := ⟨none, _, _, _, _, _⟩) rfl _ _ _ rfl Z 0 rfl (mcs zm) rfl _ _ hZa (fitM zm_ok) (mcs_one _) (sz_rmsg zm_ok) ?_); intro v3 hZb oZ sZ; try simp only [Act.put, List.setIfInBounds_toArray, List.set_cons_zero, List.set_cons_succ]; refine Pf.pause ?_; try simp only [Act.put, List.setIfInBounds_toArray, List.set_cons_zero, List.set_cons_succ]))
        have lZ : v1.heap.size ≤ Z := by have := Ze.out; omega
        have bZ : Below v1.heap.size v1 v3 := below_only nZ.below oZ lZ nZ.below.size
        have rrZ : Row v3 Z 59 (mcs zm) := hZb.congr (allM zm_ok)
        have geZ : w.heap.size ≤ Z := Nat.le_trans bel_2.size lZ
        have neXZ : X ≠ Z := by have := rrv1.lt; omega
        have lZx := lZ
        clear hZa hZb nZ oZ sZ Ze lZ
        have X_4 : Row v3 X 59 (mcs m) := rrv1.old bZ
        have bel_4 : Below w.heap.size w v3 := below_step bel_2 bel_2.size bZ
        clear rrv1 bel_2 bZ
        refine Pf.go_on ?_
        have ck := X_4.cell CK.out
        have cv := X_4.cell CV.out
        have cp := X_4.cell CP.out
        have ca0 := X_4.cell CA0.out
        have ca1 := X_4.cell CA1.out
        have ca2 := X_4.cell CA2.out
        have cz0 := rrZ.cell CZ0.out
        have cz1 := rrZ.cell CZ1.out
        have cz2 := rrZ.cell CZ2.out
        go_wp2_with (first
          | ((with_reducible refine at_slot 27 ?_); (refine arm_want (.agg (scs m.st).toArray) 27 rfl (by kernel_rfl) (run_op_load _ _ rfl X 2 rfl (scs m.st) (HS.out.range X_4) SS.out) ?_); try simp only [Act.put, List.setIfInBounds_toArray, List.set_cons_zero, List.set_cons_succ])
          | ((with_reducible refine at_slot 29 ?_); (refine arm_want (.agg (scs zs).toArray) 29 rfl (by kernel_rfl) (run_op_load _ _ rfl Z 2 rfl (scs zs) (ZS.out.range rrZ) SZ.out) ?_); try simp only [Act.put, List.setIfInBounds_toArray, List.set_cons_zero, List.set_cons_succ])
          | ((with_reducible refine at_slot 30 ?_); (refine arm_want (.bool true) 30 rfl (by kernel_rfl) (run_op_neqRS' K.out.st zs_ok _ _ _ rfl rfl rfl false (iff_of_false Bool.false_ne_true (fun h => ST.out (FS2.out h))) _) ?_); try simp only [Act.put, List.setIfInBounds_toArray, List.set_cons_zero, List.set_cons_succ]))
        go_ret
        exact ⟨rfl, bel_4⟩
    · have VE := Lib.hid h_ver
      have HR : Hid (mrB m = false) := Lib.hid (HF.out (fun h => VE.out ((HQ.out.1 h).2.1 (by omega))))
      rw [HR.out]
      have v1 : ((m.ver : Int) != 0) = true := by simp; omega
      clear h_ver hq1 HT HF HQ HR
      go_enter Try.func13, Try.ntmps13
      go_wp2_with (first
        | ((with_reducible refine at_slot 1 ?_); (refine arm_box (o := ⟨some 1, _, _, _, _, _⟩) rfl _ _ rfl (mcs m) rfl ?_); intro X v1 Xe hv1 nv1; try simp only [Act.put, List.setIfInBounds_toArray, List.set_cons_zero, List.set_cons_succ])
        | ((with_reducible refine at_slot 4 ?_); (refine arm_build (o := ⟨some 4, _, _, _, _, _⟩) rfl _ _ rfl (mcs zm) (by simp only [List.map_toArray, List.map_nil]; exact built_r0) ?_); try simp only [Act.put, List.setIfInBounds_toArray, List.set_cons_zero, List.set_cons_succ])
        | ((with_reducible refine at_slot 3 ?_); (refine Pf.pause ?_); try simp only [Act.put, List.setIfInBounds_toArray, List.set_cons_zero, List.set_cons_succ]))
      have hbv1 := nv1.below
      have rrv1 : Row v1 X 59 (mcs m) := hv1
      have geX : w.heap.size ≤ X := by have := Xe.out; omega
      clear hv1 nv1 Xe
      have bel_2 : Below w.heap.size w v1 := hbv1
      clear hbv1
      refine Pf.go_on ?_
      go_wp2_with (first
        | ((with_reducible refine at_slot 3 ?_); (refine arm_alloc (o := ⟨some 3, _, _, _, _, _⟩) rfl _ rfl (mcs zm) z_rmsg ?_); intro Z v3a Ze hZa nZ; try simp only [Act.put, List.setIfInBounds_toArray, List.set_cons_zero, List.set_cons_succ])
        | ((with_reducible refine arm_store (o := ⟨none, _, _, _, _, _⟩) rfl _ _ _ rfl Z 0 rfl (mcs zm) rfl _ _ hZa (fitM zm_ok) (mcs_one _) (sz_rmsg zm_ok) ?_); intro v3 hZb oZ sZ; try simp only [Act.put, List.setIfInBounds_toArray, List.set_cons_zero, List.set_cons_succ]; refine Pf.pause ?_; try simp only [Act.put, List.setIfInBounds_toArray, List.set_cons_zero, List.set_cons_succ]))
      have lZ : v1.heap.size ≤ Z := by have := Ze.out; omega
      have bZ : Below v1.heap.size v1 v3 := below_only nZ.below oZ lZ nZ.below.size
      have rrZ : Row v3 Z 59 (mcs zm) := hZb.congr (allM zm_ok)
      have geZ : w.heap.size ≤ Z := Nat.le_trans bel_2.size lZ
      have neXZ : X ≠ Z := by have := rrv1.lt; omega
      have lZx := lZ
      clear hZa hZb nZ oZ sZ Ze lZ
      have X_4 : Row v3 X 59 (mcs m) := rrv1.old bZ
      have bel_4 : Below w.heap.size w v3 := below_step bel_2 bel_2.size bZ
      clear rrv1 bel_2 bZ
      refine Pf.go_on ?_
      have ck := X_4.cell CK.out
      have cv := X_4.cell CV.out
      have cp := X_4.cell CP.out
      have ca0 := X_4.cell CA0.out
      have ca1 := X_4.cell CA1.out
      have ca2 := X_4.cell CA2.out
      have cz0 := rrZ.cell CZ0.out
      have cz1 := rrZ.cell CZ1.out
      have cz2 := rrZ.cell CZ2.out
      go_wp2_with fail
      go_ret
      exact ⟨rfl, bel_4⟩
  have HR : Hid (mrB m = false) := Lib.hid (HF.out (fun h => by have := (HQ.out.1 h).1; omega))
  rw [HR.out]
  by_cases h5 : q < 1
  · have d1 : decide ((q : Int) < 1) = true := decide_eq_true (by omega)
    clear h1 h2 h3 h4 h5 HT HF HQ HR
    go_enter Try.func13, Try.ntmps13
    go_wp2_with (first
      | ((with_reducible refine at_slot 1 ?_); (refine arm_box (o := ⟨some 1, _, _, _, _, _⟩) rfl _ _ rfl (mcs m) rfl ?_); intro X v1 Xe hv1 nv1; try simp only [Act.put, List.setIfInBounds_toArray, List.set_cons_zero, List.set_cons_succ])
      | ((with_reducible refine at_slot 4 ?_); (refine arm_build (o := ⟨some 4, _, _, _, _, _⟩) rfl _ _ rfl (mcs zm) (by simp only [List.map_toArray, List.map_nil]; exact built_r0) ?_); try simp only [Act.put, List.setIfInBounds_toArray, List.set_cons_zero, List.set_cons_succ])
      | ((with_reducible refine at_slot 3 ?_); (refine Pf.pause ?_); try simp only [Act.put, List.setIfInBounds_toArray, List.set_cons_zero, List.set_cons_succ]))
    have hbv1 := nv1.below
    have rrv1 : Row v1 X 59 (mcs m) := hv1
    have geX : w.heap.size ≤ X := by have := Xe.out; omega
    clear hv1 nv1 Xe
    have bel_2 : Below w.heap.size w v1 := hbv1
    clear hbv1
    refine Pf.go_on ?_
    go_wp2_with (first
      | ((with_reducible refine at_slot 3 ?_); (refine arm_alloc (o := ⟨some 3, _, _, _, _, _⟩) rfl _ rfl (mcs zm) z_rmsg ?_); intro Z v3a Ze hZa nZ; try simp only [Act.put, List.setIfInBounds_toArray, List.set_cons_zero, List.set_cons_succ])
      | ((with_reducible refine arm_store (o := ⟨none, _, _, _, _, _⟩) rfl _ _ _ rfl Z 0 rfl (mcs zm) rfl _ _ hZa (fitM zm_ok) (mcs_one _) (sz_rmsg zm_ok) ?_); intro v3 hZb oZ sZ; try simp only [Act.put, List.setIfInBounds_toArray, List.set_cons_zero, List.set_cons_succ]; refine Pf.pause ?_; try simp only [Act.put, List.setIfInBounds_toArray, List.set_cons_zero, List.set_cons_succ]))
    have lZ : v1.heap.size ≤ Z := by have := Ze.out; omega
    have bZ : Below v1.heap.size v1 v3 := below_only nZ.below oZ lZ nZ.below.size
    have rrZ : Row v3 Z 59 (mcs zm) := hZb.congr (allM zm_ok)
    have geZ : w.heap.size ≤ Z := Nat.le_trans bel_2.size lZ
    have neXZ : X ≠ Z := by have := rrv1.lt; omega
    have lZx := lZ
    clear hZa hZb nZ oZ sZ Ze lZ
    have X_4 : Row v3 X 59 (mcs m) := rrv1.old bZ
    have bel_4 : Below w.heap.size w v3 := below_step bel_2 bel_2.size bZ
    clear rrv1 bel_2 bZ
    refine Pf.go_on ?_
    have ck := X_4.cell CK.out
    have cv := X_4.cell CV.out
    have cp := X_4.cell CP.out
    have ca0 := X_4.cell CA0.out
    have ca1 := X_4.cell CA1.out
    have ca2 := X_4.cell CA2.out
    have cz0 := rrZ.cell CZ0.out
    have cz1 := rrZ.cell CZ1.out
    have cz2 := rrZ.cell CZ2.out
    go_wp2_with fail
    go_ret
    exact ⟨rfl, bel_4⟩
  · have d1 : decide ((q : Int) < 1) = false := decide_eq_false (by omega)
    have d2 : decide ((4 : Int) < (q : Int)) = true := decide_eq_true (by omega)
    clear h1 h2 h3 h4 h5 HT HF HQ HR
    go_enter Try.func13, Try.ntmps13
    go_wp2_with (first
      | ((with_reducible refine at_slot 1 ?_); (refine arm_box (o := ⟨some 1, _, _, _, _, _⟩) rfl _ _ rfl (mcs m) rfl ?_); intro X v1 Xe hv1 nv1; try simp only [Act.put, List.setIfInBounds_toArray, List.set_cons_zero, List.set_cons_succ])
      | ((with_reducible refine at_slot 4 ?_); (refine arm_build (o := ⟨some 4, _, _, _, _, _⟩) rfl _ _ rfl (mcs zm) (by simp only [List.map_toArray, List.map_nil]; exact built_r0) ?_); try simp only [Act.put, List.setIfInBounds_toArray, List.set_cons_zero, List.set_cons_succ])
      | ((with_reducible refine at_slot 3 ?_); (refine Pf.pause ?_); try simp only [Act.put, List.setIfInBounds_toArray, List.set_cons_zero, List.set_cons_succ]))
    have hbv1 := nv1.below
    have rrv1 : Row v1 X 59 (mcs m) := hv1
    have geX : w.heap.size ≤ X := by have := Xe.out; omega
    clear hv1 nv1 Xe
    have bel_2 : Below w.heap.size w v1 := hbv1
    clear hbv1
    refine Pf.go_on ?_
    go_wp2_with (first
      | ((with_reducible refine at_slot 3 ?_); (refine arm_alloc (o := ⟨some 3, _, _, _, _, _⟩) rfl _ rfl (mcs zm) z_rmsg ?_); intro Z v3a Ze hZa nZ; try simp only [Act.put, List.setIfInBounds_toArray, List.set_cons_zero, List.set_cons_succ])
      | ((with_reducible refine arm_store (o := ⟨none, _, _, _, _, _⟩) rfl _ _ _ rfl Z 0 rfl (mcs zm) rfl _ _ hZa (fitM zm_ok) (mcs_one _) (sz_rmsg zm_ok) ?_); intro v3 hZb oZ sZ; try simp only [Act.put, List.setIfInBounds_toArray, List.set_cons_zero, List.set_cons_succ]; refine Pf.pause ?_; try simp only [Act.put, List.setIfInBounds_toArray, List.set_cons_zero, List.set_cons_succ]))
    have lZ : v1.heap.size ≤ Z := by have := Ze.out; omega
    have bZ : Below v1.heap.size v1 v3 := below_only nZ.below oZ lZ nZ.below.size
    have rrZ : Row v3 Z 59 (mcs zm) := hZb.congr (allM zm_ok)
    have geZ : w.heap.size ≤ Z := Nat.le_trans bel_2.size lZ
    have neXZ : X ≠ Z := by have := rrv1.lt; omega
    have lZx := lZ
    clear hZa hZb nZ oZ sZ Ze lZ
    have X_4 : Row v3 X 59 (mcs m) := rrv1.old bZ
    have bel_4 : Below w.heap.size w v3 := below_step bel_2 bel_2.size bZ
    clear rrv1 bel_2 bZ
    refine Pf.go_on ?_
    have ck := X_4.cell CK.out
    have cv := X_4.cell CV.out
    have cp := X_4.cell CP.out
    have ca0 := X_4.cell CA0.out
    have ca1 := X_4.cell CA1.out
    have ca2 := X_4.cell CA2.out
    have cz0 := rrZ.cell CZ0.out
    have cz1 := rrZ.cell CZ1.out
    have cz2 := rrZ.cell CZ2.out
    go_wp2_with fail
    go_ret
    exact ⟨rfl, bel_4⟩
end Go.Proofs.Ytghogoijjaiccaa.Ms
