/-
  The contract of package message's Bytes. Over this seat's translation.
-/
import Derived.Test.YtghogoijjaiccaaMsgRight
import Derived.Test.YtghogoijjaiccaaAccAll
import Derived.Test.YtghogoijjaiccaaStaBytes
import Derived.Test.YtghogoijjaiccaaPrfAll
import Derived.Test.YtghogoijjaiccaaWireAll
import Derived.Test.YtghogoijjaiccaaWireRefAll
namespace Go.Proofs.Ytghogoijjaiccaa.Ms
open Go.ChangeShapes Go.WideShapes Go.ChangeAt Go.RowKit Go.Proofs.Ytghogoijjaiccaa.Mem Go.Proofs.Ytghogoijjaiccaa.Bt Go.Proofs.Ytghogoijjaiccaa.Wi Go.Proofs.Ytghogoijjaiccaa.Ac Go.Proofs.Ytghogoijjaiccaa.Tr Go.Proofs.Ytghogoijjaiccaa.Pf
open Go.Proofs.Ytghogoijjaiccaa.Tg (bytesOf bytesOf_length bytesOf_lt bytesOf_inj Rd Rd.below)
open Go.Proofs.Ytghogoijjaiccaa.Ep (H32 zh zh_ok Has Has.refl Has.left Has.right Has.head Has.get Has.chunk Has.range h_len szH zH fitH allH one_app num32)
open Go.Proofs.Ytghogoijjaiccaa.Sa (Sta scs scs_len scs_one zs zs_ok scs_app staB staB_len SRt rdS rdS_ok sz_sta z_sta sz_rsta z_rsta fitS allS)
set_option linter.unusedVariables false
set_option linter.unusedSimpArgs false

/-- A number as one of another kind. -/
theorem run_op_conv17 {o : Oper} {a : Act} (src dst : TypeId) (x : Operand) (ho : o.op = .convert src dst x) (ks kd kx : IntKind) (hus : Try.prog.underlying src = some (.int ks)) (hud : Try.prog.underlying dst = some (.int kd)) (n : Int) (hx : a.eval x = .int kx n) (m : Int) (hm : kd.wrap n = m) (w : World) : (execOp a.eval o).run Try.prog w = .ok (.value (.int kd m)) w := by
  subst hm
  unfold execOp
  simp [ho, hx, convert, run_underlying hus, run_underlying hud, Conv.intToInt]
/-- What Bytes answers. -/
noncomputable def mbB (m : Msg) : List Nat := if mrB m = true then msgB m else []
noncomputable def mbE (m : Msg) : Nat := if mrB m = true then 0 else 1
theorem mbB_rt {m : Msg} (h : MRt m) : mbB m = msgB m := if_pos (mrB_true h)
theorem mbE_rt {m : Msg} (h : MRt m) : mbE m = 0 := if_pos (mrB_true h)
theorem mbB_no {m : Msg} (h : ¬ MRt m) : mbB m = [] := if_neg (by rw [mrB_false h]; exact Bool.false_ne_true)
theorem mbE_no {m : Msg} (h : ¬ MRt m) : mbE m = 1 := if_neg (by rw [mrB_false h]; exact Bool.false_ne_true)
theorem mbB_lt {m : Msg} (k : m.Ok) : AllLt 256 (mbB m) := by
  by_cases h : MRt m
  · rw [mbB_rt h]; exact msgB_lt k h
  · rw [mbB_no h]; exact fun x hx => by cases hx
theorem mbB_len {m : Msg} (k : m.Ok) : (mbB m).length ≤ 397 := by
  by_cases h : MRt m
  · rw [mbB_rt h]; exact (msg_max k h).2
  · rw [mbB_no h]; exact Nat.zero_le _
structure MBytesPost (w : World) (m : Msg) (e : Ending) (w' : World) : Prop where
  ex : ∃ q c, e = .returned (.tuple #[.slice q (mbB m).length c, .int .i64 (mbE m : Int)]) ∧ Bt.Own w' w.heap.size q c (mbB m)
  bel : Below w.heap.size w w'
set_option maxHeartbeats 4000000 in
set_option maxRecDepth 100000 in
theorem mbytes_any (m : Msg) (w : World) (k : m.Ok) :
    Calls Try.prog 7 #[.agg (mcs m).toArray] w (MBytesPost w m) := by
  have K := Lib.hid k
  have SM := Lib.hid (sz_msg k)
  have CR := Lib.hid (fun w0 => mright_any m w0 k)
  by_cases hr : MRt m
  · have HE : Hid (mbE m = 0) := Lib.hid (mbE_rt hr)
    have HM : Hid (mbB m = msgB m) := Lib.hid (mbB_rt hr)
    rw [mrB_true hr] at CR
    have CWB : Hid (∀ W q c bs w0, Wr w0 w.heap.size W q c bs → bs.length ≤ 1000 → Calls Try.prog 22 #[.pointer (some ⟨W, 0, none⟩)] w0 (ClonePost w0 bs)) := Lib.hid fun W q c bs w0 h hl => wBytes_any w.heap.size W q c bs w0 h (by omega)
    have CB1 : Hid (∀ (n : Nat) (z : Int), z = (n : Int) → ∀ W q c bs w0, Wr w0 w.heap.size W q c bs → w.heap.size ≤ w0.heap.size → bs.length ≤ 1000 → Calls Try.prog 16 #[.pointer (some ⟨W, 0, none⟩), .int .u8 z] w0 (WrPost w0 w.heap.size W q (.tuple #[]) (bs ++ [n]))) := Lib.hid fun n z hz W q c bs w0 h hb hl => by rw [hz]; exact wByte_any n w.heap.size W q c bs w0 h hb (by omega)
    rcases mrt_cases hr with ⟨v, hm⟩ | ⟨s, hm, hs⟩ | hm | ⟨p, a, L, hm, hp, ha⟩
    · skip
      have CK : Hid ((mcs m)[0]? = some (.int .u8 1)) := Lib.hid (by rw [hm]; rfl)
      have CV : Hid ((mcs m)[1]? = some (.int .u32 (v : Int))) := Lib.hid (by rw [hm]; rfl)
      have HV : Hid (v < 4294967296) := Lib.hid (by rw [hm] at k; exact ok_ver k)
      have HX0 : Hid (mbB m = 1 :: put v 4) := Lib.hid (by rw [HM.out, hm]; rfl)
      clear hm hr k HM
      go_enter Try.func7, Try.ntmps7
      go_wp2_with (first
        | ((with_reducible refine at_slot 1 ?_); (refine arm_box (o := ⟨some 1, _, _, _, _, _⟩) rfl _ _ rfl (mcs m) rfl ?_); intro X v1 Xe hv1 nv1; try simp only [Act.put, List.setIfInBounds_toArray, List.set_cons_zero, List.set_cons_succ])
        | ((with_reducible refine at_slot 8 ?_); (refine arm_load (o := ⟨some 8, _, _, _, _, _⟩) rfl _ _ rfl X 0 rfl (mcs m) ((Has.refl _).range hv1) SM.out ?_); try simp only [Act.put, List.setIfInBounds_toArray, List.set_cons_zero, List.set_cons_succ]))
      have hbv1 := nv1.below
      have rrv1 : Row v1 X 42 (mcs m) := hv1
      have geX : w.heap.size ≤ X := by have := Xe.out; omega
      clear hv1 nv1 Xe
      have bel_2 : Below w.heap.size w v1 := hbv1
      clear hbv1
      refine (CR.out _).mono ?_
      rintro e y3 ⟨rfl, hB⟩
      have X_4 : Row y3 X 42 (mcs m) := rrv1.old hB
      have bel_4 : Below w.heap.size w y3 := below_step bel_2 bel_2.size hB
      clear rrv1 bel_2 hB
      go_wp2_with (first
        | ((with_reducible refine at_slot 4 ?_); (refine arm_alloc (o := ⟨some 4, _, _, _, _, _⟩) rfl _ rfl ([.slice none 0 0]) zero_wr ?_); intro W v5 We hv5 nv5; try simp only [Act.put, List.setIfInBounds_toArray, List.set_cons_zero, List.set_cons_succ])
        | ((with_reducible refine at_slot 12 ?_); (refine arm_want (.int .u8 1) 12 rfl (by kernel_rfl) (run_op_load1 _ _ rfl (.int .u8) (by kernel_rfl) rfl ⟨X, 0, none⟩ rfl (.int .u8 1) ((X_4.old nv5.below).cell CK.out)) ?_); try simp only [Act.put, List.setIfInBounds_toArray, List.set_cons_zero, List.set_cons_succ]))
      have geW : w.heap.size ≤ W := by have := We.out; have := bel_4.size; omega
      have rrW : Wr v5 w.heap.size W none 0 [] := wr_new hv5 geW
      have neXW : X ≠ W := by have := We.out; have := X_4.lt; omega
      have hbv5 := nv5.below
      clear hv5 nv5 We
      have X_6 : Row v5 X 42 (mcs m) := X_4.old hbv5
      have bel_6 : Below w.heap.size w v5 := below_step bel_4 bel_4.size hbv5
      clear X_4 bel_4 hbv5
      refine (CB1.out 1 1 rfl W none 0 [] _ rrW bel_6.size (by simp)).mono ?_
      rintro e y7 ⟨rfl, q7, c7, hW7, hS⟩
      have X_7 : Row y7 X 42 (mcs m) := row_step X_6 rrW hS neXW
      have bel_7 : Below w.heap.size w y7 := bel_6.trans (rrW.below hS bel_6.size)
      clear hS X_6 rrW bel_6
      go_wp2_with (first
        | ((with_reducible refine at_slot 15 ?_); (refine arm_want (.int .u8 1) 15 rfl (by kernel_rfl) (run_op_load1 _ _ rfl (.int .u8) (by kernel_rfl) rfl ⟨X, 0, none⟩ rfl (.int .u8 1) (X_7.cell CK.out)) ?_); try simp only [Act.put, List.setIfInBounds_toArray, List.set_cons_zero, List.set_cons_succ])
        | ((with_reducible refine at_slot 19 ?_); (refine arm_want (.int .u32 (v : Int)) 19 rfl (by kernel_rfl) (run_op_load1 _ _ rfl (.int .u32) (by kernel_rfl) rfl ⟨X, 1, none⟩ rfl (.int .u32 (v : Int)) (X_7.cell CV.out)) ?_); try simp only [Act.put, List.setIfInBounds_toArray, List.set_cons_zero, List.set_cons_succ]))
      refine (wNum_any v w.heap.size W q7 c7 _ _ hW7 bel_7.size (by simp) HV.out).mono ?_
      rintro e y8 ⟨rfl, q8, c8, hW8, hS⟩
      have X_8 : Row y8 X 42 (mcs m) := row_step X_7 hW7 hS neXW
      have bel_8 : Below w.heap.size w y8 := bel_7.trans (hW7.below hS bel_7.size)
      clear hS X_7 hW7 bel_7
      obtain ⟨B, HB⟩ : ∃ B, Hid (B = [] ++ [1] ++ put v 4) := ⟨_, Lib.hid rfl⟩
      rw [← HB.out] at hW8
      have HBL : Hid (B.length ≤ 1000) := Lib.hid (by rw [HB.out]; simp [put_length])
      have HX : Hid (mbB m = B ++ []) := Lib.hid (by rw [HX0.out, HB.out]; simp)
      have HLEN : Hid ((mbB m).length = B.length + 0) := Lib.hid (by rw [HX.out]; simp)
      go_wp2_with fail
      have zW := bel_8.size
      refine (CWB.out W q8 c8 B _ hW8 HBL.out).mono ?_
      rintro e y99 ⟨⟨p8, c8, rfl, hO8⟩, hB⟩
      have HO8 := Lib.hid (own_mono hO8 zW)
      clear hO8 zW
      have X_10 : Row y99 X 42 (mcs m) := X_8.old hB
      have bel_10 : Below w.heap.size w y99 := below_step bel_8 bel_8.size hB
      clear X_8 bel_8 hB
      go_wp2_with (first
        | ((with_reducible refine at_slot 45 ?_); (refine arm_append (o := ⟨some 45, _, _, _, _, _⟩) rfl _ _ rfl w.heap.size p8 B.length c8 B rfl rfl HO8.out (none) 0 (0) (([] : List Nat)) rfl rfl (fun _ => ⟨rfl, rfl⟩) (fun h => absurd rfl h) (by have := HBL.out; simp; omega) bel_10.size ?_); intro p9 c9 w9 hO9 hB9; try simp only [Act.put, List.setIfInBounds_toArray, List.set_cons_zero, List.set_cons_succ]))
      try simp only [Act.put]
      go_ret2
      exact ⟨⟨p9, c9, by have h1 := HLEN.out; have h2 := HE.out; rw [h1, h2]; try rfl, by rw [HX.out]; exact hO9⟩, bel_10.trans hB9⟩
    · skip
      have CK : Hid ((mcs m)[0]? = some (.int .u8 2)) := Lib.hid (by rw [hm]; rfl)
      have KS : Hid s.Ok := Lib.hid (by rw [hm] at k; exact ok_st k)
      have HST : Hid (Has (mcs m) 2 (scs s)) := Lib.hid (by have := m_st m; rw [hm] at this ⊢; exact this)
      have SS := Lib.hid (sz_sta KS.out)
      obtain ⟨D, hD⟩ : ∃ D, D = staB s := ⟨_, rfl⟩
      have HDL : Hid (D.length = 396) := Lib.hid (by rw [hD]; exact staB_len KS.out)
      have HX0 : Hid (mbB m = 2 :: D) := Lib.hid (by rw [HM.out, hm, hD]; rfl)
      have CSB : Hid (∀ w0, Calls Try.prog 18 #[.agg (scs s).toArray] w0 (ClonePost w0 D)) := Lib.hid fun w0 => by rw [hD]; exact Sa.bytes_any s w0 KS.out
      clear hm hr k HM hD hs
      go_enter Try.func7, Try.ntmps7
      go_wp2_with (first
        | ((with_reducible refine at_slot 1 ?_); (refine arm_box (o := ⟨some 1, _, _, _, _, _⟩) rfl _ _ rfl (mcs m) rfl ?_); intro X v1 Xe hv1 nv1; try simp only [Act.put, List.setIfInBounds_toArray, List.set_cons_zero, List.set_cons_succ])
        | ((with_reducible refine at_slot 8 ?_); (refine arm_load (o := ⟨some 8, _, _, _, _, _⟩) rfl _ _ rfl X 0 rfl (mcs m) ((Has.refl _).range hv1) SM.out ?_); try simp only [Act.put, List.setIfInBounds_toArray, List.set_cons_zero, List.set_cons_succ]))
      have hbv1 := nv1.below
      have rrv1 : Row v1 X 42 (mcs m) := hv1
      have geX : w.heap.size ≤ X := by have := Xe.out; omega
      clear hv1 nv1 Xe
      have bel_2 : Below w.heap.size w v1 := hbv1
      clear hbv1
      refine (CR.out _).mono ?_
      rintro e y3 ⟨rfl, hB⟩
      have X_4 : Row y3 X 42 (mcs m) := rrv1.old hB
      have bel_4 : Below w.heap.size w y3 := below_step bel_2 bel_2.size hB
      clear rrv1 bel_2 hB
      go_wp2_with (first
        | ((with_reducible refine at_slot 4 ?_); (refine arm_alloc (o := ⟨some 4, _, _, _, _, _⟩) rfl _ rfl ([.slice none 0 0]) zero_wr ?_); intro W v5 We hv5 nv5; try simp only [Act.put, List.setIfInBounds_toArray, List.set_cons_zero, List.set_cons_succ])
        | ((with_reducible refine at_slot 12 ?_); (refine arm_want (.int .u8 2) 12 rfl (by kernel_rfl) (run_op_load1 _ _ rfl (.int .u8) (by kernel_rfl) rfl ⟨X, 0, none⟩ rfl (.int .u8 2) ((X_4.old nv5.below).cell CK.out)) ?_); try simp only [Act.put, List.setIfInBounds_toArray, List.set_cons_zero, List.set_cons_succ]))
      have geW : w.heap.size ≤ W := by have := We.out; have := bel_4.size; omega
      have rrW : Wr v5 w.heap.size W none 0 [] := wr_new hv5 geW
      have neXW : X ≠ W := by have := We.out; have := X_4.lt; omega
      have hbv5 := nv5.below
      clear hv5 nv5 We
      have X_6 : Row v5 X 42 (mcs m) := X_4.old hbv5
      have bel_6 : Below w.heap.size w v5 := below_step bel_4 bel_4.size hbv5
      clear X_4 bel_4 hbv5
      refine (CB1.out 2 2 rfl W none 0 [] _ rrW bel_6.size (by simp)).mono ?_
      rintro e y7 ⟨rfl, q7, c7, hW7, hS⟩
      have X_7 : Row y7 X 42 (mcs m) := row_step X_6 rrW hS neXW
      have bel_7 : Below w.heap.size w y7 := bel_6.trans (rrW.below hS bel_6.size)
      clear hS X_6 rrW bel_6
      go_wp2_with (first
        | ((with_reducible refine at_slot 15 ?_); (refine arm_want (.int .u8 2) 15 rfl (by kernel_rfl) (run_op_load1 _ _ rfl (.int .u8) (by kernel_rfl) rfl ⟨X, 0, none⟩ rfl (.int .u8 2) (X_7.cell CK.out)) ?_); try simp only [Act.put, List.setIfInBounds_toArray, List.set_cons_zero, List.set_cons_succ])
        | ((with_reducible refine at_slot 24 ?_); (refine arm_load (o := ⟨some 24, _, _, _, _, _⟩) rfl _ _ rfl X 2 rfl (scs s) (HST.out.range X_7) SS.out ?_); try simp only [Act.put, List.setIfInBounds_toArray, List.set_cons_zero, List.set_cons_succ]))
      refine (CSB.out _).mono ?_
      rintro e y8 ⟨⟨pd, cd, rfl, hO⟩, hB⟩
      have X_9 : Row y8 X 42 (mcs m) := X_7.old hB
      have W_9 : Wr y8 w.heap.size W q7 c7 ([] ++ [2]) := hW7.old hB
      have bel_9 : Below w.heap.size w y8 := below_step bel_7 bel_7.size hB
      clear X_7 hW7 bel_7 hB
      have hOr := hO.rd; have DN := Lib.hid (own_none hO)
      clear hO
      obtain ⟨B, HB⟩ : ∃ B, Hid (B = [] ++ [2]) := ⟨_, Lib.hid rfl⟩
      rw [← HB.out] at W_9
      have HBL : Hid (B.length ≤ 1000) := Lib.hid (by rw [HB.out]; simp)
      have HX : Hid (mbB m = B ++ D) := Lib.hid (by rw [HX0.out, HB.out]; simp)
      have HLEN : Hid ((mbB m).length = B.length + D.length) := Lib.hid (by rw [HX.out, List.length_append])
      go_wp2_with fail
      have zW := bel_9.size
      refine (CWB.out W q7 c7 B _ W_9 HBL.out).mono ?_
      rintro e y99 ⟨⟨p8, c8, rfl, hO8⟩, hB⟩
      have HO8 := Lib.hid (own_mono hO8 zW)
      clear hO8 zW
      have X_11 : Row y99 X 42 (mcs m) := X_9.old hB
      have D_11 : Rd y99 pd D := hOr.below hB
      have bel_11 : Below w.heap.size w y99 := below_step bel_9 bel_9.size hB
      clear X_9 hOr bel_9 hB
      go_wp2_with (first
        | ((with_reducible refine at_slot 45 ?_); (refine arm_append (o := ⟨some 45, _, _, _, _, _⟩) rfl _ _ rfl w.heap.size p8 B.length c8 B rfl rfl HO8.out (pd) D.length (cd) (D) rfl rfl (DN.out) (D_11.at_) (by have := HBL.out; have := HDL.out; omega) bel_11.size ?_); intro p9 c9 w9 hO9 hB9; try simp only [Act.put, List.setIfInBounds_toArray, List.set_cons_zero, List.set_cons_succ]))
      try simp only [Act.put]
      go_ret2
      exact ⟨⟨p9, c9, by have h1 := HLEN.out; have h2 := HE.out; rw [h1, h2]; try rfl, by rw [HX.out]; exact hO9⟩, bel_11.trans hB9⟩
    · skip
      have CK : Hid ((mcs m)[0]? = some (.int .u8 3)) := Lib.hid (by rw [hm]; rfl)
      have HX0 : Hid (mbB m = [3]) := Lib.hid (by rw [HM.out, hm]; rfl)
      clear hm hr k HM
      go_enter Try.func7, Try.ntmps7
      go_wp2_with (first
        | ((with_reducible refine at_slot 1 ?_); (refine arm_box (o := ⟨some 1, _, _, _, _, _⟩) rfl _ _ rfl (mcs m) rfl ?_); intro X v1 Xe hv1 nv1; try simp only [Act.put, List.setIfInBounds_toArray, List.set_cons_zero, List.set_cons_succ])
        | ((with_reducible refine at_slot 8 ?_); (refine arm_load (o := ⟨some 8, _, _, _, _, _⟩) rfl _ _ rfl X 0 rfl (mcs m) ((Has.refl _).range hv1) SM.out ?_); try simp only [Act.put, List.setIfInBounds_toArray, List.set_cons_zero, List.set_cons_succ]))
      have hbv1 := nv1.below
      have rrv1 : Row v1 X 42 (mcs m) := hv1
      have geX : w.heap.size ≤ X := by have := Xe.out; omega
      clear hv1 nv1 Xe
      have bel_2 : Below w.heap.size w v1 := hbv1
      clear hbv1
      refine (CR.out _).mono ?_
      rintro e y3 ⟨rfl, hB⟩
      have X_4 : Row y3 X 42 (mcs m) := rrv1.old hB
      have bel_4 : Below w.heap.size w y3 := below_step bel_2 bel_2.size hB
      clear rrv1 bel_2 hB
      go_wp2_with (first
        | ((with_reducible refine at_slot 4 ?_); (refine arm_alloc (o := ⟨some 4, _, _, _, _, _⟩) rfl _ rfl ([.slice none 0 0]) zero_wr ?_); intro W v5 We hv5 nv5; try simp only [Act.put, List.setIfInBounds_toArray, List.set_cons_zero, List.set_cons_succ])
        | ((with_reducible refine at_slot 12 ?_); (refine arm_want (.int .u8 3) 12 rfl (by kernel_rfl) (run_op_load1 _ _ rfl (.int .u8) (by kernel_rfl) rfl ⟨X, 0, none⟩ rfl (.int .u8 3) ((X_4.old nv5.below).cell CK.out)) ?_); try simp only [Act.put, List.setIfInBounds_toArray, List.set_cons_zero, List.set_cons_succ]))
      have geW : w.heap.size ≤ W := by have := We.out; have := bel_4.size; omega
      have rrW : Wr v5 w.heap.size W none 0 [] := wr_new hv5 geW
      have neXW : X ≠ W := by have := We.out; have := X_4.lt; omega
      have hbv5 := nv5.below
      clear hv5 nv5 We
      have X_6 : Row v5 X 42 (mcs m) := X_4.old hbv5
      have bel_6 : Below w.heap.size w v5 := below_step bel_4 bel_4.size hbv5
      clear X_4 bel_4 hbv5
      refine (CB1.out 3 3 rfl W none 0 [] _ rrW bel_6.size (by simp)).mono ?_
      rintro e y7 ⟨rfl, q7, c7, hW7, hS⟩
      have X_7 : Row y7 X 42 (mcs m) := row_step X_6 rrW hS neXW
      have bel_7 : Below w.heap.size w y7 := bel_6.trans (rrW.below hS bel_6.size)
      clear hS X_6 rrW bel_6
      obtain ⟨B, HB⟩ : ∃ B, Hid (B = [] ++ [3]) := ⟨_, Lib.hid rfl⟩
      rw [← HB.out] at hW7
      have HBL : Hid (B.length ≤ 1000) := Lib.hid (by rw [HB.out]; simp)
      have HX : Hid (mbB m = B ++ []) := Lib.hid (by rw [HX0.out, HB.out]; simp)
      have HLEN : Hid ((mbB m).length = B.length + 0) := Lib.hid (by rw [HX.out]; simp)
      go_wp2_with (first
        | ((with_reducible refine at_slot 15 ?_); (refine arm_want (.int .u8 3) 15 rfl (by kernel_rfl) (run_op_load1 _ _ rfl (.int .u8) (by kernel_rfl) rfl ⟨X, 0, none⟩ rfl (.int .u8 3) (X_7.cell CK.out)) ?_); try simp only [Act.put, List.setIfInBounds_toArray, List.set_cons_zero, List.set_cons_succ]))
      have zW := bel_7.size
      refine (CWB.out W q7 c7 B _ hW7 HBL.out).mono ?_
      rintro e y99 ⟨⟨p8, c8, rfl, hO8⟩, hB⟩
      have HO8 := Lib.hid (own_mono hO8 zW)
      clear hO8 zW
      have X_9 : Row y99 X 42 (mcs m) := X_7.old hB
      have bel_9 : Below w.heap.size w y99 := below_step bel_7 bel_7.size hB
      clear X_7 bel_7 hB
      go_wp2_with (first
        | ((with_reducible refine at_slot 45 ?_); (refine arm_append (o := ⟨some 45, _, _, _, _, _⟩) rfl _ _ rfl w.heap.size p8 B.length c8 B rfl rfl HO8.out (none) 0 (0) (([] : List Nat)) rfl rfl (fun _ => ⟨rfl, rfl⟩) (fun h => absurd rfl h) (by have := HBL.out; simp; omega) bel_9.size ?_); intro p9 c9 w9 hO9 hB9; try simp only [Act.put, List.setIfInBounds_toArray, List.set_cons_zero, List.set_cons_succ]))
      try simp only [Act.put]
      go_ret2
      exact ⟨⟨p9, c9, by have h1 := HLEN.out; have h2 := HE.out; rw [h1, h2]; try rfl, by rw [HX.out]; exact hO9⟩, bel_9.trans hB9⟩
    · skip
      have CK : Hid ((mcs m)[0]? = some (.int .u8 4)) := Lib.hid (by rw [hm]; rfl)
      have KA : Hid a.Ok := Lib.hid (by rw [hm] at k; exact ok_acc k)
      have KL : Hid (P4 L) := Lib.hid (by rw [hm] at k; exact ok_path k)
      have CP : Hid ((mcs m)[365]? = some (.int .i64 (p : Int))) := Lib.hid (by have := (m_pl k.st).get; rw [hm] at this ⊢; exact this)
      have HA : Hid (Has (mcs m) 366 (acs a)) := Lib.hid (by have := m_acc k.st; rw [hm] at this ⊢; exact this)
      have HP : Hid (Has (mcs m) 369 (dgC L)) := Lib.hid (by have := m_path k.st; rw [hm] at this ⊢; exact this)
      have SP := Lib.hid (sz_path KL.out.ok KL.out.len)
      obtain ⟨A, hA⟩ : ∃ A, A = accB a := ⟨_, rfl⟩
      obtain ⟨D, hD⟩ : ∃ D, D = pathB L := ⟨_, rfl⟩
      have HAL : Hid (A.length ≤ 21) := Lib.hid (by rw [hA]; exact (accB_21 ha).2)
      have HDL : Hid (D.length = 128) := Lib.hid (by rw [hD]; exact KL.out.bytes_len)
      have HX0 : Hid (mbB m = 4 :: p :: A.length :: (A ++ D)) := Lib.hid (by rw [HM.out, hm, hA, hD]; rfl)
      have CAB : Hid (∀ w0, Calls Try.prog 19 #[.agg (acs a).toArray] w0 fun e w' => (∃ q c, e = .returned (.tuple #[.slice q A.length c, .int .i64 0]) ∧ Bt.Own w' w0.heap.size q c A) ∧ Below w0.heap.size w0 w') := Lib.hid fun w0 => (abytes_any a w0 KA.out).mono fun e w' h => ⟨by
        obtain ⟨q, c, h1, h2⟩ := h.ex
        rw [show ansB a = accB a from if_pos ha, show ansE a = 0 from if_pos ha, ← hA] at h1
        rw [show ansB a = accB a from if_pos ha, ← hA] at h2
        exact ⟨q, c, h1, h2⟩, h.bel⟩
      have CPB : Hid (∀ w0, Calls Try.prog 21 #[.agg (dgC L).toArray] w0 fun e w' => (∃ q c, e = .returned (.slice q 128 c) ∧ Bt.Came w' q c D) ∧ Below w0.heap.size w0 w') := Lib.hid fun w0 => (Pf.bytes_any L w0 KL.out).mono fun e w' h => ⟨by rw [hD]; exact h.ex, h.bel⟩
      have HPP : Hid (IntKind.u8.wrap (p : Int) = (p : Int)) := Lib.hid (by rw [IntKind.wrap_u8]; omega)
      clear hm hr k HM hD hA ha hp
      go_enter Try.func7, Try.ntmps7
      go_wp2_with (first
        | ((with_reducible refine at_slot 1 ?_); (refine arm_box (o := ⟨some 1, _, _, _, _, _⟩) rfl _ _ rfl (mcs m) rfl ?_); intro X v1 Xe hv1 nv1; try simp only [Act.put, List.setIfInBounds_toArray, List.set_cons_zero, List.set_cons_succ])
        | ((with_reducible refine at_slot 8 ?_); (refine arm_load (o := ⟨some 8, _, _, _, _, _⟩) rfl _ _ rfl X 0 rfl (mcs m) ((Has.refl _).range hv1) SM.out ?_); try simp only [Act.put, List.setIfInBounds_toArray, List.set_cons_zero, List.set_cons_succ]))
      have hbv1 := nv1.below
      have rrv1 : Row v1 X 42 (mcs m) := hv1
      have geX : w.heap.size ≤ X := by have := Xe.out; omega
      clear hv1 nv1 Xe
      have bel_2 : Below w.heap.size w v1 := hbv1
      clear hbv1
      refine (CR.out _).mono ?_
      rintro e y3 ⟨rfl, hB⟩
      have X_4 : Row y3 X 42 (mcs m) := rrv1.old hB
      have bel_4 : Below w.heap.size w y3 := below_step bel_2 bel_2.size hB
      clear rrv1 bel_2 hB
      go_wp2_with (first
        | ((with_reducible refine at_slot 4 ?_); (refine arm_alloc (o := ⟨some 4, _, _, _, _, _⟩) rfl _ rfl ([.slice none 0 0]) zero_wr ?_); intro W v5 We hv5 nv5; try simp only [Act.put, List.setIfInBounds_toArray, List.set_cons_zero, List.set_cons_succ])
        | ((with_reducible refine at_slot 12 ?_); (refine arm_want (.int .u8 4) 12 rfl (by kernel_rfl) (run_op_load1 _ _ rfl (.int .u8) (by kernel_rfl) rfl ⟨X, 0, none⟩ rfl (.int .u8 4) ((X_4.old nv5.below).cell CK.out)) ?_); try simp only [Act.put, List.setIfInBounds_toArray, List.set_cons_zero, List.set_cons_succ]))
      have geW : w.heap.size ≤ W := by have := We.out; have := bel_4.size; omega
      have rrW : Wr v5 w.heap.size W none 0 [] := wr_new hv5 geW
      have neXW : X ≠ W := by have := We.out; have := X_4.lt; omega
      have hbv5 := nv5.below
      clear hv5 nv5 We
      have X_6 : Row v5 X 42 (mcs m) := X_4.old hbv5
      have bel_6 : Below w.heap.size w v5 := below_step bel_4 bel_4.size hbv5
      clear X_4 bel_4 hbv5
      refine (CB1.out 4 4 rfl W none 0 [] _ rrW bel_6.size (by simp)).mono ?_
      rintro e y7 ⟨rfl, q7, c7, hW7, hS⟩
      have X_7 : Row y7 X 42 (mcs m) := row_step X_6 rrW hS neXW
      have bel_7 : Below w.heap.size w y7 := bel_6.trans (rrW.below hS bel_6.size)
      clear hS X_6 rrW bel_6
      go_wp2_with (first
        | ((with_reducible refine at_slot 15 ?_); (refine arm_want (.int .u8 4) 15 rfl (by kernel_rfl) (run_op_load1 _ _ rfl (.int .u8) (by kernel_rfl) rfl ⟨X, 0, none⟩ rfl (.int .u8 4) (X_7.cell CK.out)) ?_); try simp only [Act.put, List.setIfInBounds_toArray, List.set_cons_zero, List.set_cons_succ])
        | ((with_reducible refine at_slot 29 ?_); (refine arm_want (.int .i64 (p : Int)) 29 rfl (by kernel_rfl) (run_op_load1 _ _ rfl (.int .i64) (by kernel_rfl) rfl ⟨X, 365, none⟩ rfl (.int .i64 (p : Int)) (X_7.cell CP.out)) ?_); try simp only [Act.put, List.setIfInBounds_toArray, List.set_cons_zero, List.set_cons_succ])
        | ((with_reducible refine at_slot 30 ?_); (refine arm_want (.int .u8 (p : Int)) 30 rfl (by kernel_rfl) (run_op_conv17 _ _ _ rfl .i64 .u8 .i64 (by kernel_rfl) (by kernel_rfl) (p : Int) rfl (p : Int) HPP.out _) ?_); try simp only [Act.put, List.setIfInBounds_toArray, List.set_cons_zero, List.set_cons_succ]))
      refine (CB1.out p p rfl W q7 c7 ([] ++ [4]) _ hW7 bel_7.size (by simp)).mono ?_
      rintro e y8 ⟨rfl, q8, c8, hW8, hS⟩
      have X_8 : Row y8 X 42 (mcs m) := row_step X_7 hW7 hS neXW
      have bel_8 : Below w.heap.size w y8 := bel_7.trans (hW7.below hS bel_7.size)
      clear hS X_7 hW7 bel_7
      go_wp2_with (first
        | ((with_reducible refine at_slot 34 ?_); (refine arm_load (o := ⟨some 34, _, _, _, _, _⟩) rfl _ _ rfl X 366 rfl (acs a) (HA.out.range X_8) (sz_acc _) ?_); try simp only [Act.put, List.setIfInBounds_toArray, List.set_cons_zero, List.set_cons_succ]))
      have hlo := fun j (hj : blk q8 = some j) => (own_blk hW8.own hj).2.1
      refine (CAB.out _).mono ?_
      rintro e y9 ⟨⟨qa, ca, rfl, hOa⟩, hB⟩
      have X_10 : Row y9 X 42 (mcs m) := X_8.old hB
      have W_10 : Wr y9 w.heap.size W q8 c8 ([] ++ [4] ++ [p]) := hW8.old hB
      have bel_10 : Below w.heap.size w y9 := below_step bel_8 bel_8.size hB
      clear X_8 hW8 bel_8 hB
      have HSEP : Hid (A ≠ [] → Sep q8 qa) := Lib.hid (fun _ j h1 h2 => by have := hlo j h1; have := own_low hOa j h2; omega)
      have HRA := Lib.hid hOa.rd; have AN := Lib.hid (own_none hOa)
      clear hOa hlo
      go_wp2_with fail
      refine (wText_any A qa ca w.heap.size W q8 c8 ([] ++ [4] ++ [p]) _ W_10 bel_10.size (by simp) HRA.out AN.out HSEP.out (by have := HAL.out; unfold maxLen; omega)).mono ?_
      rintro e y11 ⟨rfl, q11, c11, hW11, hS⟩
      have X_11 : Row y11 X 42 (mcs m) := row_step X_10 W_10 hS neXW
      have bel_11 : Below w.heap.size w y11 := bel_10.trans (W_10.below hS bel_10.size)
      clear hS X_10 W_10 bel_10
      clear HRA AN HSEP
      go_wp2_with (first
        | ((with_reducible refine at_slot 41 ?_); (refine arm_load (o := ⟨some 41, _, _, _, _, _⟩) rfl _ _ rfl X 369 rfl (dgC L) (HP.out.range X_11) SP.out ?_); try simp only [Act.put, List.setIfInBounds_toArray, List.set_cons_zero, List.set_cons_succ]))
      refine (CPB.out _).mono ?_
      rintro e y12 ⟨⟨pd, cd, rfl, hC⟩, hB⟩
      have X_13 : Row y12 X 42 (mcs m) := X_11.old hB
      have W_13 : Wr y12 w.heap.size W q11 c11 ([] ++ [4] ++ [p] ++ txt A) := hW11.old hB
      have bel_13 : Below w.heap.size w y12 := below_step bel_11 bel_11.size hB
      clear X_11 hW11 bel_11 hB
      have hCr : Rd _ pd D := ⟨hC.at_⟩
      have DN : Hid (pd = none → 128 = 0 ∧ cd = 0) := Lib.hid (fun e => by have := hC.nil_ e; have := hC.cap_; have := HDL.out; omega)
      clear hC
      obtain ⟨B, HB⟩ : ∃ B, Hid (B = [] ++ [4] ++ [p] ++ txt A) := ⟨_, Lib.hid rfl⟩
      rw [← HB.out] at W_13
      have HBL : Hid (B.length ≤ 1000) := Lib.hid (by rw [HB.out]; have := txt_len A; simp; omega)
      have HX : Hid (mbB m = B ++ D) := Lib.hid (by
        rw [HX0.out, HB.out]
        unfold txt
        rw [if_pos (by have := HAL.out; omega)]
        simp)
      have HLEN : Hid ((mbB m).length = B.length + 128) := Lib.hid (by rw [HX.out, List.length_append, HDL.out])
      go_wp2_with fail
      have zW := bel_13.size
      refine (CWB.out W q11 c11 B _ W_13 HBL.out).mono ?_
      rintro e y99 ⟨⟨p8, c8, rfl, hO8⟩, hB⟩
      have HO8 := Lib.hid (own_mono hO8 zW)
      clear hO8 zW
      have X_15 : Row y99 X 42 (mcs m) := X_13.old hB
      have D_15 : Rd y99 pd D := hCr.below hB
      have bel_15 : Below w.heap.size w y99 := below_step bel_13 bel_13.size hB
      clear X_13 hCr bel_13 hB
      go_wp2_with (first
        | ((with_reducible refine at_slot 45 ?_); (refine arm_append (o := ⟨some 45, _, _, _, _, _⟩) rfl _ _ rfl w.heap.size p8 B.length c8 B rfl rfl HO8.out (pd) 128 (cd) (D) rfl HDL.out.symm (DN.out) (D_15.at_) (by have := HBL.out; have := HDL.out; omega) bel_15.size ?_); intro p9 c9 w9 hO9 hB9; try simp only [Act.put, List.setIfInBounds_toArray, List.set_cons_zero, List.set_cons_succ]))
      try simp only [Act.put]
      go_ret2
      exact ⟨⟨p9, c9, by have h1 := HLEN.out; have h2 := HE.out; rw [h1, h2]; try rfl, by rw [HX.out]; exact hO9⟩, bel_15.trans hB9⟩
  · have HE : Hid (mbE m = 1) := Lib.hid (mbE_no hr)
    have HM : Hid (mbB m = []) := Lib.hid (mbB_no hr)
    rw [mrB_false hr] at CR
    clear hr k
    go_enter Try.func7, Try.ntmps7
    go_wp2_with (first
      | ((with_reducible refine at_slot 1 ?_); (refine arm_box (o := ⟨some 1, _, _, _, _, _⟩) rfl _ _ rfl (mcs m) rfl ?_); intro X v1 Xe hv1 nv1; try simp only [Act.put, List.setIfInBounds_toArray, List.set_cons_zero, List.set_cons_succ])
      | ((with_reducible refine at_slot 8 ?_); (refine arm_load (o := ⟨some 8, _, _, _, _, _⟩) rfl _ _ rfl X 0 rfl (mcs m) ((Has.refl _).range hv1) SM.out ?_); try simp only [Act.put, List.setIfInBounds_toArray, List.set_cons_zero, List.set_cons_succ]))
    have hbv1 := nv1.below
    have rrv1 : Row v1 X 42 (mcs m) := hv1
    have geX : w.heap.size ≤ X := by have := Xe.out; omega
    clear hv1 nv1 Xe
    have bel_2 : Below w.heap.size w v1 := hbv1
    clear hbv1
    refine (CR.out _).mono ?_
    rintro e y3 ⟨rfl, hB⟩
    have X_4 : Row y3 X 42 (mcs m) := rrv1.old hB
    have bel_4 : Below w.heap.size w y3 := below_step bel_2 bel_2.size hB
    clear rrv1 bel_2 hB
    go_wp2_with fail
    go_ret2
    exact ⟨⟨none, 0, by rw [HE.out, HM.out]; rfl, by rw [HM.out]; exact own_nil _ _⟩, bel_4⟩
end Go.Proofs.Ytghogoijjaiccaa.Ms
