/-
  The contract of the document's Bytes of layer 17. Over this seat's translation.
-/
import Derived.Test.YtghogoijjaiccaaMsgRRight
import Derived.Test.YtghogoijjaiccaaMsgBytes
import Derived.Test.YtghogoijjaiccaaStaRBytes
import Derived.Test.YtghogoijjaiccaaAccRefAll
import Derived.Test.YtghogoijjaiccaaPrfAll
namespace Go.Proofs.Ytghogoijjaiccaa.Ms
open Go.ChangeShapes Go.WideShapes Go.ChangeAt Go.RowKit Go.Proofs.Ytghogoijjaiccaa.Mem Go.Proofs.Ytghogoijjaiccaa.Bt Go.Proofs.Ytghogoijjaiccaa.Wi Go.Proofs.Ytghogoijjaiccaa.Ac Go.Proofs.Ytghogoijjaiccaa.Tr Go.Proofs.Ytghogoijjaiccaa.Pf
open Go.Proofs.Ytghogoijjaiccaa.Tg (bytesOf bytesOf_length bytesOf_lt bytesOf_inj Rd Rd.below)
open Go.Proofs.Ytghogoijjaiccaa.Ep (H32 zh zh_ok Has Has.refl Has.left Has.right Has.head Has.get Has.chunk Has.range h_len szH zH fitH allH one_app num32)
open Go.Proofs.Ytghogoijjaiccaa.Sa (Sta scs scs_len scs_one zs zs_ok scs_app staB staB_len SRt rdS rdS_ok sz_sta z_sta sz_rsta z_rsta fitS allS)
set_option linter.unusedVariables false
set_option linter.unusedSimpArgs false

set_option maxHeartbeats 4000000 in
set_option maxRecDepth 100000 in
theorem rmbytes_any (m : Msg) (w : World) (k : m.Ok) :
    Calls Try.prog 8 #[.agg (mcs m).toArray] w (MBytesPost w m) := by
  have K := Lib.hid k
  have SM := Lib.hid (sz_rmsg k)
  have CR := Lib.hid (fun w0 => rmright_any m w0 k)
  by_cases hr : MRt m
  · have HE : Hid (mbE m = 0) := Lib.hid (mbE_rt hr)
    have HM : Hid (mbB m = msgB m) := Lib.hid (mbB_rt hr)
    rw [mrB_true hr] at CR
    rcases mrt_cases hr with ⟨v, hm⟩ | ⟨s, hm, hs⟩ | hm | ⟨p, a, L, hm, hp, ha⟩
    · skip
      have CK : Hid ((mcs m)[0]? = some (.int .u8 1)) := Lib.hid (by rw [hm]; rfl)
      have CV : Hid ((mcs m)[1]? = some (.int .u32 (v : Int))) := Lib.hid (by rw [hm]; rfl)
      have HV : Hid (v < 4294967296) := Lib.hid (by rw [hm] at k; exact ok_ver k)
      have HX : Hid (mbB m = [1] ++ put v 4) := Lib.hid (by rw [HM.out, hm, b_hello, List.singleton_append])
      have HLEN : Hid ((mbB m).length = 1 + 4) := Lib.hid (by rw [HX.out, List.length_append, put_length]; rfl)
      have HWV : Hid (IntKind.u64.wrap (v : Int) = (v : Int)) := Lib.hid (by have := HV.out; rw [IntKind.wrap_u64]; omega)
      have CP := Lib.hid (fun w0 => Wi.put_any v 4 w0 (by have := HV.out; omega) (by omega))
      clear hm hr k HM
      go_enter Try.func8, Try.ntmps8
      go_wp2_with (first
        | ((with_reducible refine at_slot 1 ?_); (refine arm_box (o := ⟨some 1, _, _, _, _, _⟩) rfl _ _ rfl (mcs m) rfl ?_); intro X v1 Xe hv1 nv1; try simp only [Act.put, List.setIfInBounds_toArray, List.set_cons_zero, List.set_cons_succ])
        | ((with_reducible refine at_slot 9 ?_); (refine arm_load (o := ⟨some 9, _, _, _, _, _⟩) rfl _ _ rfl X 0 rfl (mcs m) ((Has.refl _).range hv1) SM.out ?_); try simp only [Act.put, List.setIfInBounds_toArray, List.set_cons_zero, List.set_cons_succ]))
      have hbv1 := nv1.below
      have rrv1 : Row v1 X 59 (mcs m) := hv1
      have geX : w.heap.size ≤ X := by have := Xe.out; omega
      have lXx : w.heap.size ≤ X := by have := Xe.out; omega
      clear hv1 nv1 Xe
      have bel_2 : Below w.heap.size w v1 := hbv1
      clear hbv1
      refine (CR.out _).mono ?_
      rintro e y3 ⟨rfl, hB⟩
      have X_4 : Row y3 X 59 (mcs m) := rrv1.old hB
      have bel_4 : Below w.heap.size w y3 := below_step bel_2 bel_2.size hB
      clear rrv1 bel_2 hB
      go_wp2_with (first
        | ((with_reducible refine at_slot 13 ?_); (refine arm_want (.int .u8 1) 13 rfl (by kernel_rfl) (run_op_load1 _ _ rfl (.int .u8) (by kernel_rfl) rfl ⟨X, 0, none⟩ rfl (.int .u8 1) (X_4.cell CK.out)) ?_); try simp only [Act.put, List.setIfInBounds_toArray, List.set_cons_zero, List.set_cons_succ])
        | ((with_reducible refine at_slot 14 ?_); (refine arm_buildSlice (o := ⟨some 14, _, _, _, _, _⟩) rfl 1 _ rfl [.int .u8 1] #[(0, .int .u8 1)] (by simp [Act.eval]) (bs1 _) ?_); intro b5 v5 b5e hv5 nv5; try simp only [Act.put, List.setIfInBounds_toArray, List.set_cons_zero, List.set_cons_succ]; refine Pf.pause ?_; try simp only [Act.put, List.setIfInBounds_toArray, List.set_cons_zero, List.set_cons_succ]))
      refine Pf.go_on ?_
      have gb5 : w.heap.size ≤ b5 := by have := b5e.out; have := bel_4.size; omega
      have ob5 : Bt.Own v5 w.heap.size (some ⟨b5, 0, none⟩) 1 [1] := Tg.own_row (bs := [1]) hv5 gb5 (by simp)
      have hbv5 := nv5.below
      clear hv5 nv5 b5e gb5
      have X_6 : Row v5 X 59 (mcs m) := X_4.old hbv5
      have bel_6 : Below w.heap.size w v5 := below_step bel_4 bel_4.size hbv5
      clear X_4 bel_4 hbv5
      go_wp2_with (first
        | ((with_reducible refine at_slot 16 ?_); (refine arm_want (.int .u8 1) 16 rfl (by kernel_rfl) (run_op_load1 _ _ rfl (.int .u8) (by kernel_rfl) rfl ⟨X, 0, none⟩ rfl (.int .u8 1) (X_6.cell CK.out)) ?_); try simp only [Act.put, List.setIfInBounds_toArray, List.set_cons_zero, List.set_cons_succ])
        | ((with_reducible refine at_slot 21 ?_); (refine arm_want (.int .u32 (v : Int)) 21 rfl (by kernel_rfl) (run_op_load1 _ _ rfl (.int .u32) (by kernel_rfl) rfl ⟨X, 1, none⟩ rfl (.int .u32 (v : Int)) (X_6.cell CV.out)) ?_); try simp only [Act.put, List.setIfInBounds_toArray, List.set_cons_zero, List.set_cons_succ])
        | ((with_reducible refine at_slot 22 ?_); (refine arm_want (.int .u64 (v : Int)) 22 rfl (by kernel_rfl) (run_op_conv17 _ _ _ rfl .u32 .u64 .u32 (by kernel_rfl) (by kernel_rfl) (v : Int) rfl (v : Int) HWV.out _) ?_); try simp only [Act.put, List.setIfInBounds_toArray, List.set_cons_zero, List.set_cons_succ]))
      refine (CP.out _).mono ?_
      rintro e y7 ⟨⟨p2, c2, rfl, hO2⟩, hB⟩
      have X_8 : Row y7 X 59 (mcs m) := X_6.old hB
      have V_8 : Bt.Own y7 w.heap.size (some ⟨b5, 0, none⟩) 1 ([1]) := ob5.below hB
      have bel_8 : Below w.heap.size w y7 := below_step bel_6 bel_6.size hB
      clear X_6 ob5 bel_6 hB
      have HO2 := Lib.hid hO2; clear hO2
      go_wp2_with (first
        | ((with_reducible refine at_slot 24 ?_); (refine arm_append2 (o := ⟨some 24, _, _, _, _, _⟩) rfl _ _ rfl w.heap.size (some ⟨b5, 0, none⟩) (1) 1 ([1]) rfl rfl V_8 (p2) (4) (c2) (put v 4) rfl (put_length _ _).symm (fun h => by have := own_none HO2.out h; rw [put_length] at this; omega) (HO2.out.bytes) (by rw [put_length]; simp) bel_8.size ?_); intro p9 c9 y9 hO9 hS9; try simp only [Act.put, List.setIfInBounds_toArray, List.set_cons_zero, List.set_cons_succ]; refine Pf.pause ?_; try simp only [Act.put, List.setIfInBounds_toArray, List.set_cons_zero, List.set_cons_succ]))
      refine Pf.go_on ?_
      have X_9 : Row y9 X 59 (mcs m) := step_row X_8 (by decide) V_8 hS9
      have bel_9 : Below w.heap.size w y9 := step_bel bel_8 bel_8.size V_8 hS9
      clear hS9 X_8 V_8 bel_8
      go_wp2_with fail
      go_ret2
      exact ⟨⟨p9, c9, by have h1 := HLEN.out; have h2 := HE.out; rw [h1, h2]; rfl, by rw [HX.out]; exact hO9⟩, bel_9⟩
    · skip
      have CK : Hid ((mcs m)[0]? = some (.int .u8 2)) := Lib.hid (by rw [hm]; rfl)
      have KS : Hid s.Ok := Lib.hid (by rw [hm] at k; exact ok_st k)
      have HST : Hid (Has (mcs m) 2 (scs s)) := Lib.hid (by have := m_st m; rw [hm] at this ⊢; exact this)
      have SS := Lib.hid (sz_rsta KS.out)
      obtain ⟨D, hD⟩ : ∃ D, D = staB s := ⟨_, rfl⟩
      have HDL : Hid (D.length = 396) := Lib.hid (by rw [hD]; exact staB_len KS.out)
      have HX : Hid (mbB m = [2] ++ D) := Lib.hid (by rw [HM.out, hm, hD, b_tip, List.singleton_append])
      have HLEN : Hid ((mbB m).length = 1 + 396) := Lib.hid (by rw [HX.out, List.length_append, HDL.out]; rfl)
      have CSB : Hid (∀ w0, Calls Try.prog 24 #[.agg (scs s).toArray] w0 (Sa.SPost w0 396 D)) := Lib.hid fun w0 => by rw [hD]; exact Sa.rbytes_any s w0 KS.out
      clear hm hr k HM hD hs
      go_enter Try.func8, Try.ntmps8
      go_wp2_with (first
        | ((with_reducible refine at_slot 1 ?_); (refine arm_box (o := ⟨some 1, _, _, _, _, _⟩) rfl _ _ rfl (mcs m) rfl ?_); intro X v1 Xe hv1 nv1; try simp only [Act.put, List.setIfInBounds_toArray, List.set_cons_zero, List.set_cons_succ])
        | ((with_reducible refine at_slot 9 ?_); (refine arm_load (o := ⟨some 9, _, _, _, _, _⟩) rfl _ _ rfl X 0 rfl (mcs m) ((Has.refl _).range hv1) SM.out ?_); try simp only [Act.put, List.setIfInBounds_toArray, List.set_cons_zero, List.set_cons_succ]))
      have hbv1 := nv1.below
      have rrv1 : Row v1 X 59 (mcs m) := hv1
      have geX : w.heap.size ≤ X := by have := Xe.out; omega
      have lXx : w.heap.size ≤ X := by have := Xe.out; omega
      clear hv1 nv1 Xe
      have bel_2 : Below w.heap.size w v1 := hbv1
      clear hbv1
      refine (CR.out _).mono ?_
      rintro e y3 ⟨rfl, hB⟩
      have X_4 : Row y3 X 59 (mcs m) := rrv1.old hB
      have bel_4 : Below w.heap.size w y3 := below_step bel_2 bel_2.size hB
      clear rrv1 bel_2 hB
      go_wp2_with (first
        | ((with_reducible refine at_slot 13 ?_); (refine arm_want (.int .u8 2) 13 rfl (by kernel_rfl) (run_op_load1 _ _ rfl (.int .u8) (by kernel_rfl) rfl ⟨X, 0, none⟩ rfl (.int .u8 2) (X_4.cell CK.out)) ?_); try simp only [Act.put, List.setIfInBounds_toArray, List.set_cons_zero, List.set_cons_succ])
        | ((with_reducible refine at_slot 14 ?_); (refine arm_buildSlice (o := ⟨some 14, _, _, _, _, _⟩) rfl 1 _ rfl [.int .u8 2] #[(0, .int .u8 2)] (by simp [Act.eval]) (bs1 _) ?_); intro b5 v5 b5e hv5 nv5; try simp only [Act.put, List.setIfInBounds_toArray, List.set_cons_zero, List.set_cons_succ]; refine Pf.pause ?_; try simp only [Act.put, List.setIfInBounds_toArray, List.set_cons_zero, List.set_cons_succ]))
      refine Pf.go_on ?_
      have gb5 : w.heap.size ≤ b5 := by have := b5e.out; have := bel_4.size; omega
      have ob5 : Bt.Own v5 w.heap.size (some ⟨b5, 0, none⟩) 1 [2] := Tg.own_row (bs := [2]) hv5 gb5 (by simp)
      have hbv5 := nv5.below
      clear hv5 nv5 b5e gb5
      have X_6 : Row v5 X 59 (mcs m) := X_4.old hbv5
      have bel_6 : Below w.heap.size w v5 := below_step bel_4 bel_4.size hbv5
      clear X_4 bel_4 hbv5
      go_wp2_with (first
        | ((with_reducible refine at_slot 16 ?_); (refine arm_want (.int .u8 2) 16 rfl (by kernel_rfl) (run_op_load1 _ _ rfl (.int .u8) (by kernel_rfl) rfl ⟨X, 0, none⟩ rfl (.int .u8 2) (X_6.cell CK.out)) ?_); try simp only [Act.put, List.setIfInBounds_toArray, List.set_cons_zero, List.set_cons_succ])
        | ((with_reducible refine at_slot 29 ?_); (refine arm_load (o := ⟨some 29, _, _, _, _, _⟩) rfl _ _ rfl X 2 rfl (scs s) (HST.out.range X_6) SS.out ?_); try simp only [Act.put, List.setIfInBounds_toArray, List.set_cons_zero, List.set_cons_succ]))
      refine (CSB.out _).mono ?_
      rintro e y7 ⟨⟨p2, c2, rfl, hO2⟩, hB⟩
      have X_8 : Row y7 X 59 (mcs m) := X_6.old hB
      have V_8 : Bt.Own y7 w.heap.size (some ⟨b5, 0, none⟩) 1 ([2]) := ob5.below hB
      have bel_8 : Below w.heap.size w y7 := below_step bel_6 bel_6.size hB
      clear X_6 ob5 bel_6 hB
      have HO2 := Lib.hid hO2; clear hO2
      go_wp2_with (first
        | ((with_reducible refine at_slot 31 ?_); (refine arm_append2 (o := ⟨some 31, _, _, _, _, _⟩) rfl _ _ rfl w.heap.size (some ⟨b5, 0, none⟩) (1) 1 ([2]) rfl rfl V_8 (p2) (396) (c2) (D) rfl HDL.out.symm (fun h => by have := own_none HO2.out h; have := HDL.out; omega) (HO2.out.bytes) (by rw [HDL.out]; simp) bel_8.size ?_); intro p9 c9 y9 hO9 hS9; try simp only [Act.put, List.setIfInBounds_toArray, List.set_cons_zero, List.set_cons_succ]; refine Pf.pause ?_; try simp only [Act.put, List.setIfInBounds_toArray, List.set_cons_zero, List.set_cons_succ]))
      refine Pf.go_on ?_
      have X_9 : Row y9 X 59 (mcs m) := step_row X_8 (by decide) V_8 hS9
      have bel_9 : Below w.heap.size w y9 := step_bel bel_8 bel_8.size V_8 hS9
      clear hS9 X_8 V_8 bel_8
      go_wp2_with fail
      go_ret2
      exact ⟨⟨p9, c9, by have h1 := HLEN.out; have h2 := HE.out; rw [h1, h2]; rfl, by rw [HX.out]; exact hO9⟩, bel_9⟩
    · skip
      have CK : Hid ((mcs m)[0]? = some (.int .u8 3)) := Lib.hid (by rw [hm]; rfl)
      have HX : Hid (mbB m = [3]) := Lib.hid (by rw [HM.out, hm]; rfl)
      have HLEN : Hid ((mbB m).length = 1) := Lib.hid (by rw [HX.out]; rfl)
      clear hm hr k HM
      go_enter Try.func8, Try.ntmps8
      go_wp2_with (first
        | ((with_reducible refine at_slot 1 ?_); (refine arm_box (o := ⟨some 1, _, _, _, _, _⟩) rfl _ _ rfl (mcs m) rfl ?_); intro X v1 Xe hv1 nv1; try simp only [Act.put, List.setIfInBounds_toArray, List.set_cons_zero, List.set_cons_succ])
        | ((with_reducible refine at_slot 9 ?_); (refine arm_load (o := ⟨some 9, _, _, _, _, _⟩) rfl _ _ rfl X 0 rfl (mcs m) ((Has.refl _).range hv1) SM.out ?_); try simp only [Act.put, List.setIfInBounds_toArray, List.set_cons_zero, List.set_cons_succ]))
      have hbv1 := nv1.below
      have rrv1 : Row v1 X 59 (mcs m) := hv1
      have geX : w.heap.size ≤ X := by have := Xe.out; omega
      have lXx : w.heap.size ≤ X := by have := Xe.out; omega
      clear hv1 nv1 Xe
      have bel_2 : Below w.heap.size w v1 := hbv1
      clear hbv1
      refine (CR.out _).mono ?_
      rintro e y3 ⟨rfl, hB⟩
      have X_4 : Row y3 X 59 (mcs m) := rrv1.old hB
      have bel_4 : Below w.heap.size w y3 := below_step bel_2 bel_2.size hB
      clear rrv1 bel_2 hB
      go_wp2_with (first
        | ((with_reducible refine at_slot 13 ?_); (refine arm_want (.int .u8 3) 13 rfl (by kernel_rfl) (run_op_load1 _ _ rfl (.int .u8) (by kernel_rfl) rfl ⟨X, 0, none⟩ rfl (.int .u8 3) (X_4.cell CK.out)) ?_); try simp only [Act.put, List.setIfInBounds_toArray, List.set_cons_zero, List.set_cons_succ])
        | ((with_reducible refine at_slot 14 ?_); (refine arm_buildSlice (o := ⟨some 14, _, _, _, _, _⟩) rfl 1 _ rfl [.int .u8 3] #[(0, .int .u8 3)] (by simp [Act.eval]) (bs1 _) ?_); intro b5 v5 b5e hv5 nv5; try simp only [Act.put, List.setIfInBounds_toArray, List.set_cons_zero, List.set_cons_succ]; refine Pf.pause ?_; try simp only [Act.put, List.setIfInBounds_toArray, List.set_cons_zero, List.set_cons_succ]))
      refine Pf.go_on ?_
      have gb5 : w.heap.size ≤ b5 := by have := b5e.out; have := bel_4.size; omega
      have ob5 : Bt.Own v5 w.heap.size (some ⟨b5, 0, none⟩) 1 [3] := Tg.own_row (bs := [3]) hv5 gb5 (by simp)
      have hbv5 := nv5.below
      clear hv5 nv5 b5e gb5
      have X_6 : Row v5 X 59 (mcs m) := X_4.old hbv5
      have bel_6 : Below w.heap.size w v5 := below_step bel_4 bel_4.size hbv5
      clear X_4 bel_4 hbv5
      go_wp2_with (first
        | ((with_reducible refine at_slot 16 ?_); (refine arm_want (.int .u8 3) 16 rfl (by kernel_rfl) (run_op_load1 _ _ rfl (.int .u8) (by kernel_rfl) rfl ⟨X, 0, none⟩ rfl (.int .u8 3) (X_6.cell CK.out)) ?_); try simp only [Act.put, List.setIfInBounds_toArray, List.set_cons_zero, List.set_cons_succ]))
      go_ret2
      exact ⟨⟨(some ⟨b5, 0, none⟩), 1, by have h1 := HLEN.out; have h2 := HE.out; rw [h1, h2]; rfl, by rw [HX.out]; exact ob5⟩, bel_6⟩
    · skip
      have CK : Hid ((mcs m)[0]? = some (.int .u8 4)) := Lib.hid (by rw [hm]; rfl)
      have KA : Hid a.Ok := Lib.hid (by rw [hm] at k; exact ok_acc k)
      have KL : Hid (P4 L) := Lib.hid (by rw [hm] at k; exact ok_path k)
      have CP : Hid ((mcs m)[365]? = some (.int .i64 (p : Int))) := Lib.hid (by have := (m_pl k.st).get; rw [hm] at this ⊢; exact this)
      have HA : Hid (Has (mcs m) 366 (acs a)) := Lib.hid (by have := m_acc k.st; rw [hm] at this ⊢; exact this)
      have HP : Hid (Has (mcs m) 369 (dgC L)) := Lib.hid (by have := m_path k.st; rw [hm] at this ⊢; exact this)
      have SP := Lib.hid (sz_rpath KL.out.ok KL.out.len)
      obtain ⟨A, hA⟩ : ∃ A, A = accB a := ⟨_, rfl⟩
      obtain ⟨D, hD⟩ : ∃ D, D = pathB L := ⟨_, rfl⟩
      have HAL : Hid (A.length ≤ 21) := Lib.hid (by rw [hA]; exact (accB_21 ha).2)
      have HDL : Hid (D.length = 128) := Lib.hid (by rw [hD]; exact KL.out.bytes_len)
      obtain ⟨T, hT⟩ : ∃ T, T = txt A := ⟨_, rfl⟩
      have HTL : Hid (T.length ≤ 256) := Lib.hid (by rw [hT]; exact txt_len A)
      have HX : Hid (mbB m = [4] ++ [p] ++ T ++ D) := Lib.hid (by
        rw [HM.out, hm, hT]
        unfold txt
        rw [if_pos (by have := HAL.out; omega), hA, hD]
        simp [b_shown, showB])
      have HLEN : Hid ((mbB m).length = 1 + 1 + T.length + 128) := Lib.hid (by rw [HX.out, List.length_append, List.length_append, List.length_append, HDL.out]; rfl)
      have CAB : Hid (∀ w0, Calls Try.prog 25 #[.agg (acs a).toArray] w0 fun e w' => (∃ q c, e = .returned (.tuple #[.slice q A.length c, .int .i64 0]) ∧ Bt.Own w' w0.heap.size q c A) ∧ Below w0.heap.size w0 w') := Lib.hid fun w0 => (Ac.rbytes_any a w0 KA.out).mono fun e w' h => ⟨by
        obtain ⟨q, c, h1, h2⟩ := h.ex
        rw [show ansB a = accB a from if_pos ha, show ansE a = 0 from if_pos ha, ← hA] at h1
        rw [show ansB a = accB a from if_pos ha, ← hA] at h2
        exact ⟨q, c, h1, h2⟩, h.bel⟩
      have CTX : Hid (∀ q c w0, Bt.Own w0 w.heap.size q c A → Calls Try.prog 26 #[.slice q A.length c] w0 fun e w' => (∃ p cap, e = .returned (.tuple #[.slice p T.length cap, .bool (decide (A.length ≤ 255))]) ∧ Bt.Own w' w0.heap.size p cap T) ∧ Below w0.heap.size w0 w') := Lib.hid fun q c w0 h => (txt_any A q c w0 h.rd (own_none h) (by have := HAL.out; unfold maxLen; omega)).mono fun e w' h => ⟨by rw [hT]; exact h.ex, h.bel⟩
      have CPB : Hid (∀ w0, Calls Try.prog 27 #[.agg (dgC L).toArray] w0 fun e w' => (∃ q c, e = .returned (.slice q 128 c) ∧ Bt.Came w' q c D) ∧ Below w0.heap.size w0 w') := Lib.hid fun w0 => (Pf.rbytes16_any L w0 KL.out).mono fun e w' h => ⟨by rw [hD]; exact h.ex, h.bel⟩
      have HPP : Hid (IntKind.u8.wrap (p : Int) = (p : Int)) := Lib.hid (by rw [IntKind.wrap_u8]; omega)
      clear hm hr k HM hD hA hT ha hp
      go_enter Try.func8, Try.ntmps8
      go_wp2_with (first
        | ((with_reducible refine at_slot 1 ?_); (refine arm_box (o := ⟨some 1, _, _, _, _, _⟩) rfl _ _ rfl (mcs m) rfl ?_); intro X v1 Xe hv1 nv1; try simp only [Act.put, List.setIfInBounds_toArray, List.set_cons_zero, List.set_cons_succ])
        | ((with_reducible refine at_slot 9 ?_); (refine arm_load (o := ⟨some 9, _, _, _, _, _⟩) rfl _ _ rfl X 0 rfl (mcs m) ((Has.refl _).range hv1) SM.out ?_); try simp only [Act.put, List.setIfInBounds_toArray, List.set_cons_zero, List.set_cons_succ]))
      have hbv1 := nv1.below
      have rrv1 : Row v1 X 59 (mcs m) := hv1
      have geX : w.heap.size ≤ X := by have := Xe.out; omega
      have lXx : w.heap.size ≤ X := by have := Xe.out; omega
      clear hv1 nv1 Xe
      have bel_2 : Below w.heap.size w v1 := hbv1
      clear hbv1
      refine (CR.out _).mono ?_
      rintro e y3 ⟨rfl, hB⟩
      have X_4 : Row y3 X 59 (mcs m) := rrv1.old hB
      have bel_4 : Below w.heap.size w y3 := below_step bel_2 bel_2.size hB
      clear rrv1 bel_2 hB
      go_wp2_with (first
        | ((with_reducible refine at_slot 13 ?_); (refine arm_want (.int .u8 4) 13 rfl (by kernel_rfl) (run_op_load1 _ _ rfl (.int .u8) (by kernel_rfl) rfl ⟨X, 0, none⟩ rfl (.int .u8 4) (X_4.cell CK.out)) ?_); try simp only [Act.put, List.setIfInBounds_toArray, List.set_cons_zero, List.set_cons_succ])
        | ((with_reducible refine at_slot 14 ?_); (refine arm_buildSlice (o := ⟨some 14, _, _, _, _, _⟩) rfl 1 _ rfl [.int .u8 4] #[(0, .int .u8 4)] (by simp [Act.eval]) (bs1 _) ?_); intro b5 v5 b5e hv5 nv5; try simp only [Act.put, List.setIfInBounds_toArray, List.set_cons_zero, List.set_cons_succ]; refine Pf.pause ?_; try simp only [Act.put, List.setIfInBounds_toArray, List.set_cons_zero, List.set_cons_succ]))
      refine Pf.go_on ?_
      have gb5 : w.heap.size ≤ b5 := by have := b5e.out; have := bel_4.size; omega
      have ob5 : Bt.Own v5 w.heap.size (some ⟨b5, 0, none⟩) 1 [4] := Tg.own_row (bs := [4]) hv5 gb5 (by simp)
      have hbv5 := nv5.below
      clear hv5 nv5 b5e gb5
      have X_6 : Row v5 X 59 (mcs m) := X_4.old hbv5
      have bel_6 : Below w.heap.size w v5 := below_step bel_4 bel_4.size hbv5
      clear X_4 bel_4 hbv5
      go_wp2_with (first
        | ((with_reducible refine at_slot 16 ?_); (refine arm_want (.int .u8 4) 16 rfl (by kernel_rfl) (run_op_load1 _ _ rfl (.int .u8) (by kernel_rfl) rfl ⟨X, 0, none⟩ rfl (.int .u8 4) (X_6.cell CK.out)) ?_); try simp only [Act.put, List.setIfInBounds_toArray, List.set_cons_zero, List.set_cons_succ])
        | ((with_reducible refine at_slot 36 ?_); (refine arm_load (o := ⟨some 36, _, _, _, _, _⟩) rfl _ _ rfl X 366 rfl (acs a) (HA.out.range X_6) (sz_racc _) ?_); try simp only [Act.put, List.setIfInBounds_toArray, List.set_cons_zero, List.set_cons_succ]))
      have zB := bel_6.size
      refine (CAB.out _).mono ?_
      rintro e y7 ⟨⟨qa, ca, rfl, hOa⟩, hB⟩
      have X_8 : Row y7 X 59 (mcs m) := X_6.old hB
      have V_8 : Bt.Own y7 w.heap.size (some ⟨b5, 0, none⟩) 1 ([4]) := ob5.below hB
      have bel_8 : Below w.heap.size w y7 := below_step bel_6 bel_6.size hB
      clear X_6 ob5 bel_6 hB
      have hOa2 := own_mono hOa zB; clear hOa zB
      go_wp2_with fail
      have hlo := fun j (hj : blk (some ⟨b5, 0, none⟩) = some j) => (own_blk V_8 hj).2.1
      have zB := bel_8.size
      refine (CTX.out qa ca _ hOa2).mono ?_
      rintro e y9 ⟨⟨pt, ct, rfl, hOt⟩, hB⟩
      have X_10 : Row y9 X 59 (mcs m) := X_8.old hB
      have V_10 : Bt.Own y9 w.heap.size (some ⟨b5, 0, none⟩) 1 ([4]) := V_8.below hB
      have A_10 : Bt.Own y9 w.heap.size qa ca A := hOa2.below hB
      have bel_10 : Below w.heap.size w y9 := below_step bel_8 bel_8.size hB
      clear X_8 V_8 hOa2 bel_8 hB
      clear A_10
      have HSEP : Sep (some ⟨b5, 0, none⟩) pt := fun j h1 h2 => by have := hlo j h1; have := own_low hOt j h2; omega
      have hOt2 := own_mono hOt zB; clear hOt zB hlo
      go_wp2_with (first
        | ((with_reducible refine at_slot 47 ?_); (refine arm_want (.int .i64 (p : Int)) 47 rfl (by kernel_rfl) (run_op_load1 _ _ rfl (.int .i64) (by kernel_rfl) rfl ⟨X, 365, none⟩ rfl (.int .i64 (p : Int)) (X_10.cell CP.out)) ?_); try simp only [Act.put, List.setIfInBounds_toArray, List.set_cons_zero, List.set_cons_succ])
        | ((with_reducible refine at_slot 48 ?_); (refine arm_want (.int .u8 (p : Int)) 48 rfl (by kernel_rfl) (run_op_conv17 _ _ _ rfl .i64 .u8 .i64 (by kernel_rfl) (by kernel_rfl) (p : Int) rfl (p : Int) HPP.out _) ?_); try simp only [Act.put, List.setIfInBounds_toArray, List.set_cons_zero, List.set_cons_succ])
        | ((with_reducible refine at_slot 49 ?_); (refine arm_buildSlice (o := ⟨some 49, _, _, _, _, _⟩) rfl 1 _ rfl [.int .u8 (p : Int)] #[(0, .int .u8 (p : Int))] (by simp [Act.eval]) (bs1 _) ?_); intro b11 v11 b11e hv11 nv11; try simp only [Act.put, List.setIfInBounds_toArray, List.set_cons_zero, List.set_cons_succ]; refine Pf.pause ?_; try simp only [Act.put, List.setIfInBounds_toArray, List.set_cons_zero, List.set_cons_succ]))
      refine Pf.go_on ?_
      have HBY : Hid ([p] ≠ [] → ∃ g go, (some ⟨b11, 0, none⟩ : Option Addr) = some ⟨g, go, none⟩ ∧ v11.rangeAt g go (u8s [p])) := Lib.hid (fun _ => ⟨b11, 0, rfl, hv11.range 0 _ (fun j v hj => by rw [Nat.zero_add]; exact hj)⟩)
      have hbv11 := nv11.below
      clear hv11 nv11 b11e
      have X_12 : Row v11 X 59 (mcs m) := X_10.old hbv11
      have V_12 : Bt.Own v11 w.heap.size (some ⟨b5, 0, none⟩) 1 ([4]) := V_10.below hbv11
      have T_12 : Bt.Own v11 w.heap.size pt ct T := hOt2.below hbv11
      have bel_12 : Below w.heap.size w v11 := below_step bel_10 bel_10.size hbv11
      clear X_10 V_10 hOt2 bel_10 hbv11
      go_wp2_with (first
        | ((with_reducible refine at_slot 50 ?_); (refine arm_append2 (o := ⟨some 50, _, _, _, _, _⟩) rfl _ _ rfl w.heap.size (some ⟨b5, 0, none⟩) (1) 1 ([4]) rfl rfl V_12 (some ⟨b11, 0, none⟩) (1) (1) ([p]) rfl rfl (fun h => by cases h) (HBY.out) (by simp) bel_12.size ?_); intro p13 c13 y13 hO13 hS13; try simp only [Act.put, List.setIfInBounds_toArray, List.set_cons_zero, List.set_cons_succ]; refine Pf.pause ?_; try simp only [Act.put, List.setIfInBounds_toArray, List.set_cons_zero, List.set_cons_succ]))
      refine Pf.go_on ?_
      have X_13 : Row y13 X 59 (mcs m) := step_row X_12 (by decide) V_12 hS13
      have T_13 : Bt.Own y13 w.heap.size pt ct T := own_step T_12 hS13 HSEP (fun j hj => by cases hj)
      have bel_13 : Below w.heap.size w y13 := step_bel bel_12 bel_12.size V_12 hS13
      clear hS13 X_12 T_12 V_12 bel_12
      clear HBY
      have HT2 := Lib.hid T_13
      have HT3 := Lib.hid T_13; clear T_13 HT2 HSEP
      go_wp2_with (first
        | ((with_reducible refine at_slot 53 ?_); (refine arm_append2 (o := ⟨some 53, _, _, _, _, _⟩) rfl _ _ rfl w.heap.size p13 (1 + 1) c13 ([4] ++ [p]) rfl rfl hO13 (pt) (T.length) (ct) (T) rfl rfl (own_none HT3.out) (HT3.out.bytes) (by have := HTL.out; simp; omega) bel_13.size ?_); intro p14 c14 y14 hO14 hS14; try simp only [Act.put, List.setIfInBounds_toArray, List.set_cons_zero, List.set_cons_succ]; refine Pf.pause ?_; try simp only [Act.put, List.setIfInBounds_toArray, List.set_cons_zero, List.set_cons_succ]))
      refine Pf.go_on ?_
      have X_14 : Row y14 X 59 (mcs m) := step_row X_13 (by decide) hO13 hS14
      have bel_14 : Below w.heap.size w y14 := step_bel bel_13 bel_13.size hO13 hS14
      clear hS14 X_13 hO13 bel_13
      clear HT3
      go_wp2_with (first
        | ((with_reducible refine at_slot 56 ?_); (refine arm_load (o := ⟨some 56, _, _, _, _, _⟩) rfl _ _ rfl X 369 rfl (dgC L) (HP.out.range X_14) SP.out ?_); try simp only [Act.put, List.setIfInBounds_toArray, List.set_cons_zero, List.set_cons_succ]))
      refine (CPB.out _).mono ?_
      rintro e y15 ⟨⟨pd, cd, rfl, hC⟩, hB⟩
      have X_16 : Row y15 X 59 (mcs m) := X_14.old hB
      have V_16 : Bt.Own y15 w.heap.size p14 c14 ([4] ++ [p] ++ T) := hO14.below hB
      have bel_16 : Below w.heap.size w y15 := below_step bel_14 bel_14.size hB
      clear X_14 hO14 bel_14 hB
      have HCD := Lib.hid hC; clear hC
      go_wp2_with (first
        | ((with_reducible refine at_slot 58 ?_); (refine arm_append2 (o := ⟨some 58, _, _, _, _, _⟩) rfl _ _ rfl w.heap.size p14 (1 + 1 + T.length) c14 ([4] ++ [p] ++ T) (by simp; omega) rfl V_16 (pd) (128) (cd) (D) rfl HDL.out.symm (fun e => by have := HCD.out.nil_ e; have := HCD.out.cap_; have := HDL.out; omega) (HCD.out.at_) (by have := HTL.out; rw [HDL.out]; simp; omega) bel_16.size ?_); intro p17 c17 y17 hO17 hS17; try simp only [Act.put, List.setIfInBounds_toArray, List.set_cons_zero, List.set_cons_succ]; refine Pf.pause ?_; try simp only [Act.put, List.setIfInBounds_toArray, List.set_cons_zero, List.set_cons_succ]))
      refine Pf.go_on ?_
      have X_17 : Row y17 X 59 (mcs m) := step_row X_16 (by decide) V_16 hS17
      have bel_17 : Below w.heap.size w y17 := step_bel bel_16 bel_16.size V_16 hS17
      clear hS17 X_16 V_16 bel_16
      go_wp2_with fail
      go_ret2
      exact ⟨⟨p17, c17, by have h1 := HLEN.out; have h2 := HE.out; rw [h1, h2]; rfl, by rw [HX.out]; exact hO17⟩, bel_17⟩
  · have HE : Hid (mbE m = 1) := Lib.hid (mbE_no hr)
    have HM : Hid (mbB m = []) := Lib.hid (mbB_no hr)
    rw [mrB_false hr] at CR
    clear hr k
    go_enter Try.func8, Try.ntmps8
    go_wp2_with (first
      | ((with_reducible refine at_slot 1 ?_); (refine arm_box (o := ⟨some 1, _, _, _, _, _⟩) rfl _ _ rfl (mcs m) rfl ?_); intro X v1 Xe hv1 nv1; try simp only [Act.put, List.setIfInBounds_toArray, List.set_cons_zero, List.set_cons_succ])
      | ((with_reducible refine at_slot 9 ?_); (refine arm_load (o := ⟨some 9, _, _, _, _, _⟩) rfl _ _ rfl X 0 rfl (mcs m) ((Has.refl _).range hv1) SM.out ?_); try simp only [Act.put, List.setIfInBounds_toArray, List.set_cons_zero, List.set_cons_succ]))
    have hbv1 := nv1.below
    have rrv1 : Row v1 X 59 (mcs m) := hv1
    have geX : w.heap.size ≤ X := by have := Xe.out; omega
    have lXx : w.heap.size ≤ X := by have := Xe.out; omega
    clear hv1 nv1 Xe
    have bel_2 : Below w.heap.size w v1 := hbv1
    clear hbv1
    refine (CR.out _).mono ?_
    rintro e y3 ⟨rfl, hB⟩
    have X_4 : Row y3 X 59 (mcs m) := rrv1.old hB
    have bel_4 : Below w.heap.size w y3 := below_step bel_2 bel_2.size hB
    clear rrv1 bel_2 hB
    go_wp2_with fail
    go_ret2
    exact ⟨⟨none, 0, by rw [HE.out, HM.out]; rfl, by rw [HM.out]; exact own_nil _ _⟩, bel_4⟩
end Go.Proofs.Ytghogoijjaiccaa.Ms
