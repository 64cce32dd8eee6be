/-
  The contracts of the document's tree: Set, Drop, Get, Len. Over this seat's translation.
-/
import Derived.Test.YtpebadhknpohkaaDoorTreRMem
import Derived.Test.YtpebadhknpohkaaDoorMemAll
namespace Go.Proofs.YtpebadhknpohkaaDoor.Tr
open Go.ChangeShapes Go.WideShapes Go.ChangeAt Go.RowKit Go.Proofs.YtpebadhknpohkaaDoor.Mem Go.Proofs.YtpebadhknpohkaaDoor.Bt Go.Proofs.YtpebadhknpohkaaDoor.Wi Go.Proofs.YtpebadhknpohkaaDoor.Sha Go.Proofs.YtpebadhknpohkaaDoor.Ac Go.Proofs.YtpebadhknpohkaaDoor.Im
open Go.Proofs.YtpebadhknpohkaaDoor.Tg (bytesOf bytesOf_length bytesOf_lt bytesOf_inj Rd Rd.below Parts parts_one arm_one tagD tagD_len tagOf_any refTag_any total)
open Go.Proofs.YtpebadhknpohkaaDoor.Ep (H32 zh zh_ok Has h_len szH zH fitH allH came_at)
set_option linter.unusedVariables false
set_option linter.unusedSimpArgs false

theorem racc_ne_tree {w : World} {X : Nat} {ty ty' : TypeId} {a : Acct} {A : List Acct} {I : List Bool} (h : Row w X ty (acs a)) (g : Row w X ty' (rtcs A I)) (hA : A.length = 16 := by first | exact accs_len _ | simp) : False := by
  have e := congrArg List.length (h.inj g)
  unfold rtcs at e
  rw [acs_len, List.length_append, asC_len, hA] at e
  omega
structure RSetPost (w : World) (C : Nat) (t : Tree) (p : Int) (a : Acct) (e : Ending) (w' : World) : Prop where
  ret : e = .returned (.int .i64 (setE p a : Int))
  tr : RAt w' C (setR t p a)
  ow : Only C w w'
structure RDropPost (w : World) (C : Nat) (t : Tree) (p : Int) (e : Ending) (w' : World) : Prop where
  ret : e = .returned (.bool (atI t p).isSome)
  tr : RAt w' C (dropR t p)
  ow : Only C w w'
theorem drop_nat (t : Tree) (k : Nat) : dropR t (k : Int) = setT t k none := by
  funext i
  unfold dropR delI setT
  by_cases h : i = k
  · rw [if_pos h, if_pos (by omega)]
  · rw [if_neg h, if_neg (by omega)]
theorem at_far {t : Tree} (hg : Good t) {p : Int} (h : ¬ (0 ≤ p ∧ p < 16)) : atI t p = none := by
  cases e : atI t p with
  | none => rfl
  | some a => exact absurd ⟨(good_at hg e).1, (good_at hg e).2.1⟩ h
theorem at_nat (t : Tree) (k : Nat) : atI t (k : Int) = t k := atI_nat t k
set_option maxHeartbeats 4000000 in
set_option maxRecDepth 100000 in
theorem rset_any (C : Nat) (t : Tree) (p : Int) (a : Acct) (w : World) (ht : RAt w C t) :
    Calls Tryd.prog 11 #[.pointer (some ⟨C, 0, none⟩), .int .i64 p, .agg (acs a).toArray] w (RSetPost w C t p a) := by
  have CR := Lib.hid (fun w0 => rright_any a w0)
  have KA := Lib.hid (sz_racc a)
  by_cases hneg : p < 0
  · have q1 : decide (p < (0 : Int)) = true := decide_eq_true (by omega)
    have hnot : ¬ (0 ≤ p ∧ p < 16) := by omega
    have hs : ¬ SetOk p a := fun h => hnot h.1
    have HE : Hid (setE p a = 1) := Lib.hid (by unfold setE; rw [if_neg hs])
    have HT : Hid (t = setR t p a) := Lib.hid (by unfold setR; rw [if_neg hs])
    clear hs CR
    clear hnot
    go_enter Tryd.func11, Tryd.ntmps11
    go_wp2_with (first
      | ((with_reducible refine at_slot 5 ?_); (refine arm_box (o := ⟨some 5, _, _, _, _, _⟩) rfl _ _ rfl (acs a) rfl ?_); intro X v1 Xe hv1 nv1))
    have hbv1 := nv1.below
    have rrv1 : Row v1 X 31 (acs a) := hv1
    have geX : w.heap.size ≤ X := by have := Xe.out; omega
    clear hv1 nv1 Xe
    have T_2 : RAt v1 C t := ht.old hbv1
    have bel_2 : Below w.heap.size w v1 := hbv1
    clear ht hbv1
    go_wp2_with fail
    go_ret
    exact ⟨by rw [HE.out]; rfl, HT.out ▸ T_2, Only.of_below C bel_2⟩
  · have q1 : decide (p < (0 : Int)) = false := decide_eq_false (by omega)
    by_cases hbig : 15 < p
    · have q2 : decide ((15 : Int) < p) = true := decide_eq_true (by omega)
      have hnot : ¬ (0 ≤ p ∧ p < 16) := by omega
      have hs : ¬ SetOk p a := fun h => hnot h.1
      have HE : Hid (setE p a = 1) := Lib.hid (by unfold setE; rw [if_neg hs])
      have HT : Hid (t = setR t p a) := Lib.hid (by unfold setR; rw [if_neg hs])
      clear hs CR
      clear hnot
      go_enter Tryd.func11, Tryd.ntmps11
      go_wp2_with (first
        | ((with_reducible refine at_slot 5 ?_); (refine arm_box (o := ⟨some 5, _, _, _, _, _⟩) rfl _ _ rfl (acs a) rfl ?_); intro X v1 Xe hv1 nv1))
      have hbv1 := nv1.below
      have rrv1 : Row v1 X 31 (acs a) := hv1
      have geX : w.heap.size ≤ X := by have := Xe.out; omega
      clear hv1 nv1 Xe
      have T_2 : RAt v1 C t := ht.old hbv1
      have bel_2 : Below w.heap.size w v1 := hbv1
      clear ht hbv1
      go_wp2_with fail
      go_ret
      exact ⟨by rw [HE.out]; rfl, HT.out ▸ T_2, Only.of_below C bel_2⟩
    · have q2 : decide ((15 : Int) < p) = false := decide_eq_false (by omega)
      obtain ⟨k, hk⟩ : ∃ k : Nat, p = (k : Int) := ⟨p.toNat, by omega⟩
      subst hk
      have hk16 : k < 16 := by omega
      by_cases hr : NRt a.nm
      · rw [decide_eq_true hr] at CR
        have hs : SetOk (k : Int) a := ⟨by omega, hr⟩
        have HE : Hid (setE (k : Int) a = 0) := Lib.hid (by unfold setE; rw [if_pos hs])
        have HT : Hid (setT t k (some a) = setR t (k : Int) a) := Lib.hid (by unfold setR; rw [if_pos hs, Int.toNat_natCast])
        have HA : Hid ((accs t).set k a = accs (setT t k (some a))) := Lib.hid (accs_set t k (some a))
        have HI : Hid ((iss t).set k true = iss (setT t k (some a))) := Lib.hid (iss_set t k (some a))
        have LA := Lib.hid (accs_len t); have LI := Lib.hid (iss_len t)
        have hrow := ht.row
        have HK := Lib.hid hk16
        have HFT : Hid (k * 3 + (acs a).length ≤ (rtcs (accs t) (iss t)).length) := Lib.hid (by rw [rt_len (accs_len t) (iss_len t), acs_len]; omega)
        clear hs hr hneg hbig ht
        go_enter Tryd.func11, Tryd.ntmps11
        have geC : True := trivial
        go_wp2_with (first
          | ((with_reducible refine at_slot 5 ?_); (refine arm_box (o := ⟨some 5, _, _, _, _, _⟩) rfl _ _ rfl (acs a) rfl ?_); intro X v1 Xe hv1 nv1)
          | ((with_reducible refine at_slot 14 ?_); (refine arm_want (.agg (acs a).toArray) 14 rfl (by kernel_rfl) (run_op_load _ _ rfl X 0 rfl (acs a) ((Has.refl _).range hv1) KA.out) ?_)))
        have hbv1 := nv1.below
        have rrv1 : Row v1 X 31 (acs a) := hv1
        have geX : w.heap.size ≤ X := by have := Xe.out; omega
        clear hv1 nv1 Xe
        have C_2 : Row v1 C 35 (rtcs (accs t) (iss t)) := hrow.old hbv1
        have bel_2 : Below w.heap.size w v1 := hbv1
        clear hrow hbv1
        refine (CR.out _).mono ?_
        rintro e y3 ⟨rfl, hB⟩
        have C_4 : Row y3 C 35 (rtcs (accs t) (iss t)) := C_2.old hB
        have X_4 : Row y3 X 31 (acs a) := rrv1.old hB
        have bel_4 : Below w.heap.size w y3 := below_step bel_2 bel_2.size hB
        clear C_2 rrv1 bel_2 hB
        go_wp2_with fail
        refine wp_region_held (S := fun w' => Row w' X 31 (acs a) ∧ True) (by kernel_rfl) ?_
        change wpAnyH _ _ _ _ _ _ _ _ y3.drew
        have hd5 : Below y3.heap.size y3 y3.drew := (Below.refl _ _).drew
        have C_6 : Row y3.drew C 35 (rtcs (accs t) (iss t)) := C_4.old hd5
        have X_6 : Row y3.drew X 31 (acs a) := X_4.old hd5
        have bel_6 : Below w.heap.size w y3.drew := below_step bel_4 bel_4.size hd5
        clear C_4 X_4 bel_4 hd5
        generalize y3.drew = yz5 at C_6 X_6 bel_6 ⊢
        refine h_take 0 (.pointer (some ⟨C, 0, none⟩)) rfl 18 rfl (by kernel_rfl) (by kernel_rfl) (by kernel_rfl) (by kernel_rfl) (fun _ _ _ h => h) (fun w' _ => by kernel_rfl) ⟨X_6, trivial⟩ ?_
        simp only [Act.put, List.setIfInBounds_toArray, List.set_cons_zero, List.set_cons_succ]
        refine h_take 1 (.int .i64 (k : Int)) rfl 19 rfl (by kernel_rfl) (by kernel_rfl) (by kernel_rfl) (by kernel_rfl) (fun _ _ _ h => h) (fun w' _ => by kernel_rfl) ⟨X_6, trivial⟩ ?_
        simp only [Act.put, List.setIfInBounds_toArray, List.set_cons_zero, List.set_cons_succ]
        refine h_take 2 (.agg (acs a).toArray) rfl 20 rfl (by kernel_rfl) (by kernel_rfl) (by kernel_rfl) (by kernel_rfl) (fun _ _ _ h => h) (fun w' hw => run_op_load _ _ rfl X (0) rfl (acs a) (((Has.refl _)).range hw.1) (KA.out)) ⟨X_6, trivial⟩ ?_
        simp only [Act.put, List.setIfInBounds_toArray, List.set_cons_zero, List.set_cons_succ]
        refine h_take 3 (.pointer (some ⟨C, 0, none⟩)) rfl 21 rfl (by kernel_rfl) (by kernel_rfl) (by kernel_rfl) (by kernel_rfl) (fun _ _ _ h => h) (fun w' _ => by kernel_rfl) ⟨X_6, trivial⟩ ?_
        simp only [Act.put, List.setIfInBounds_toArray, List.set_cons_zero, List.set_cons_succ]
        refine h_take 4 (.pointer (some ⟨C, 0, none⟩)) rfl 22 rfl (by kernel_rfl) (by kernel_rfl) (by kernel_rfl) (by kernel_rfl) (fun _ _ _ h => h) (fun w' _ => by kernel_rfl) ⟨X_6, trivial⟩ ?_
        simp only [Act.put, List.setIfInBounds_toArray, List.set_cons_zero, List.set_cons_succ]
        refine h_take 5 (.pointer (some ⟨C, k * 3, none⟩)) rfl 23 rfl (by kernel_rfl) (by kernel_rfl) (by kernel_rfl) (by kernel_rfl) (fun _ _ _ h => h) (fun w' _ => run_op_arr _ _ _ rfl 16 31 3 (by kernel_rfl) (by kernel_rfl) C 0 rfl .i64 _ rfl k rfl (by omega) (k * 3) (by omega) w') ⟨X_6, trivial⟩ ?_
        simp only [Act.put, List.setIfInBounds_toArray, List.set_cons_zero, List.set_cons_succ]
        have hCX : X ≠ C := fun e => by subst e; exact racc_ne_tree X_6 C_6
        refine h_one (i := 6) (by kernel_rfl) (o_skip rfl rfl (by kernel_rfl) (run_op_store _ _ _ rfl C (k * 3) rfl (acs a) rfl _ _ C_6 HFT.out (acs_one _) KA.out) ?_)
        have rq := (row_setRow C_6 (lay (rtcs (accs t) (iss t)) (k * 3) (acs a))).congr (rt_lay a (by rw [LA.out]; exact HK.out))
        have oq := Only.setRow C yz5 (lay (rtcs (accs t) (iss t)) (k * 3) (acs a)).toArray
        generalize yz5.setRow C (lay (rtcs (accs t) (iss t)) (k * 3) (acs a)).toArray = z at rq oq ⊢
        refine ⟨⟨X_6.only oq hCX, trivial⟩, ?_⟩
        have hO : Only C w z := (Only.of_below C bel_6).trans oq
        rw [HA.out] at rq
        refine wpAnyH_done (by kernel_rfl) ?_ _
        clear C_6 X_6 bel_6 oq hCX
        go_wp2_with (first
          | ((with_reducible refine arm_storeV (o := ⟨none, _, _, _, _, _⟩) rfl _ _ _ rfl C (48 + k) rfl (.bool true) rfl rfl (by kernel_rfl) _ _ rq (by rw [rt_len (accs_len _) LI.out]; have := HK.out; omega) ?_); intro z2 hz2 oz2 sz2))
        rw [rt_set (accs_len _), HI.out, HT.out] at hz2
        go_ret
        exact ⟨by rw [HE.out]; rfl, ⟨hz2⟩, hO.trans oz2⟩
      · rw [decide_eq_false hr] at CR
        have hs : ¬ SetOk (k : Int) a := fun h => hr h.2
        have HE : Hid (setE (k : Int) a = 1) := Lib.hid (by unfold setE; rw [if_neg hs])
        have HT : Hid (t = setR t (k : Int) a) := Lib.hid (by unfold setR; rw [if_neg hs])
        clear hs hr hneg hbig hk16
        go_enter Tryd.func11, Tryd.ntmps11
        go_wp2_with (first
          | ((with_reducible refine at_slot 5 ?_); (refine arm_box (o := ⟨some 5, _, _, _, _, _⟩) rfl _ _ rfl (acs a) rfl ?_); intro X v1 Xe hv1 nv1)
          | ((with_reducible refine at_slot 14 ?_); (refine arm_want (.agg (acs a).toArray) 14 rfl (by kernel_rfl) (run_op_load _ _ rfl X 0 rfl (acs a) ((Has.refl _).range hv1) KA.out) ?_)))
        have hbv1 := nv1.below
        have rrv1 : Row v1 X 31 (acs a) := hv1
        have geX : w.heap.size ≤ X := by have := Xe.out; omega
        clear hv1 nv1 Xe
        have T_2 : RAt v1 C t := ht.old hbv1
        have bel_2 : Below w.heap.size w v1 := hbv1
        clear ht hbv1
        refine (CR.out _).mono ?_
        rintro e y3 ⟨rfl, hB⟩
        have T_4 : RAt y3 C t := T_2.old hB
        have X_4 : Row y3 X 31 (acs a) := rrv1.old hB
        have bel_4 : Below w.heap.size w y3 := below_step bel_2 bel_2.size hB
        clear T_2 rrv1 bel_2 hB
        go_wp2_with fail
        go_ret
        exact ⟨by rw [HE.out]; rfl, HT.out ▸ T_4, Only.of_below C bel_4⟩
set_option maxHeartbeats 4000000 in
set_option maxRecDepth 100000 in
theorem rdrop_any (C : Nat) (t : Tree) (p : Int) (w : World) (ht : RAt w C t) (hg : Good t) :
    Calls Tryd.prog 12 #[.pointer (some ⟨C, 0, none⟩), .int .i64 p] w (RDropPost w C t p) := by
  by_cases hneg : p < 0
  · have q1 : decide (p < (0 : Int)) = true := decide_eq_true (by omega)
    have hnot : ¬ (0 ≤ p ∧ p < 16) := by omega
    have hn := at_far hg hnot
    have HE : Hid (atI t p = none) := Lib.hid hn
    have HT : Hid (t = dropR t p) := Lib.hid (drop_none hn).symm
    clear hn hg
    clear hnot
    go_enter Tryd.func12, Tryd.ntmps12
    go_wp2_with fail
    go_ret
    exact ⟨by rw [HE.out]; rfl, HT.out ▸ ht, Only.refl C w⟩
  · have q1 : decide (p < (0 : Int)) = false := decide_eq_false (by omega)
    by_cases hbig : 15 < p
    · have q2 : decide ((15 : Int) < p) = true := decide_eq_true (by omega)
      have hnot : ¬ (0 ≤ p ∧ p < 16) := by omega
      have hn := at_far hg hnot
      have HE : Hid (atI t p = none) := Lib.hid hn
      have HT : Hid (t = dropR t p) := Lib.hid (drop_none hn).symm
      clear hn hg
      clear hnot
      go_enter Tryd.func12, Tryd.ntmps12
      go_wp2_with fail
      go_ret
      exact ⟨by rw [HE.out]; rfl, HT.out ▸ ht, Only.refl C w⟩
    · have q2 : decide ((15 : Int) < p) = false := decide_eq_false (by omega)
      obtain ⟨k, hk⟩ : ∃ k : Nat, p = (k : Int) := ⟨p.toNat, by omega⟩
      subst hk
      have hk16 : k < 16 := by omega
      obtain ⟨b, hb⟩ : ∃ b, b = (t k).isSome := ⟨_, rfl⟩
      have hcb := ht.is hk16
      have HAT : Hid (atI t (k : Int) = t k) := Lib.hid (at_nat t k)
      rw [← hb] at hcb
      cases b
      · skip
        have hn : t k = none := by cases e : t k with
          | none => rfl
          | some a => rw [e] at hb; cases hb
        have HN := Lib.hid hn
        have HT : Hid (t = dropR t (k : Int)) := Lib.hid (drop_none (by rw [HAT.out, hn])).symm
        have HK := Lib.hid hk16
        clear hb hn hneg hbig hk16
        go_enter Tryd.func12, Tryd.ntmps12
        go_wp2_with (first
          | ((with_reducible refine at_slot 16 ?_); (refine arm_want (.pointer (some ⟨C, 48 + k, none⟩)) 16 rfl (by kernel_rfl) (run_op_arr _ _ _ rfl 16 4 1 (by kernel_rfl) (by kernel_rfl) C 48 rfl .i64 _ rfl k rfl HK.out (48 + k) (by omega) _) ?_))
          | ((with_reducible refine at_slot 17 ?_); (refine arm_want (.bool false) 17 rfl (by kernel_rfl) (run_op_load1 _ _ rfl .bool (by kernel_rfl) rfl ⟨C, 48 + k, none⟩ rfl _ hcb) ?_)))
        go_ret
        exact ⟨by rw [HAT.out, HN.out]; rfl, HT.out ▸ ht, Only.refl C w⟩
      · skip
        have HS : Hid ((t k).isSome = true) := Lib.hid hb.symm
        have HT : Hid (setT t k none = dropR t (k : Int)) := Lib.hid (drop_nat t k).symm
        have HA : Hid ((accs t).set k za = accs (setT t k none)) := Lib.hid (accs_set t k none)
        have HI : Hid ((iss t).set k false = iss (setT t k none)) := Lib.hid (iss_set t k none)
        have LA := Lib.hid (accs_len t); have LI := Lib.hid (iss_len t)
        have hrow := ht.row
        have HK := Lib.hid hk16
        have HFT : Hid (k * 3 + (acs za).length ≤ (rtcs (accs t) (iss t)).length) := Lib.hid (by rw [rt_len (accs_len t) (iss_len t), acs_len]; omega)
        have HLY : Hid (lay (rtcs (accs t) (iss t)) (k * 3) (acs za) = rtcs (accs (setT t k none)) (iss t)) := Lib.hid (by rw [rt_lay za (by rw [accs_len]; exact hk16), HA.out])
        have BZ := Lib.hid built_rza
        clear hb hneg hbig hk16
        go_enter Tryd.func12, Tryd.ntmps12
        go_wp2_with (first
          | ((with_reducible refine at_slot 16 ?_); (refine arm_want (.pointer (some ⟨C, 48 + k, none⟩)) 16 rfl (by kernel_rfl) (run_op_arr _ _ _ rfl 16 4 1 (by kernel_rfl) (by kernel_rfl) C 48 rfl .i64 _ rfl k rfl HK.out (48 + k) (by omega) _) ?_))
          | ((with_reducible refine at_slot 17 ?_); (refine arm_want (.bool true) 17 rfl (by kernel_rfl) (run_op_load1 _ _ rfl .bool (by kernel_rfl) rfl ⟨C, 48 + k, none⟩ rfl _ hcb) ?_))
          | ((with_reducible refine at_slot 22 ?_); (refine arm_build (o := ⟨some 22, _, _, _, _, _⟩) rfl _ _ rfl (acs za) (by simp only [List.map_toArray, List.map_nil]; exact BZ.out) ?_))
          | ((with_reducible refine at_slot 25 ?_); (refine arm_want (.pointer (some ⟨C, k * 3, none⟩)) 25 rfl (by kernel_rfl) (run_op_arr _ _ _ rfl 16 31 3 (by kernel_rfl) (by kernel_rfl) C 0 rfl .i64 _ rfl k rfl HK.out (k * 3) (by omega) _) ?_))
          | ((with_reducible refine arm_store (o := ⟨none, _, _, _, _, _⟩) rfl _ _ _ rfl C (k * 3) rfl (acs za) rfl _ _ hrow HFT.out (acs_one _) (sz_racc za) ?_); intro z hz oz sz; have hz' := hz.congr HLY.out)
          | ((with_reducible refine at_slot 30 ?_); (refine arm_want (.pointer (some ⟨C, 48 + k, none⟩)) 30 rfl (by kernel_rfl) (run_op_arr _ _ _ rfl 16 4 1 (by kernel_rfl) (by kernel_rfl) C 48 rfl .i64 _ rfl k rfl HK.out (48 + k) (by omega) _) ?_))
          | ((with_reducible refine arm_storeV (o := ⟨none, _, _, _, _, _⟩) rfl _ _ _ rfl C (48 + k) rfl (.bool false) rfl rfl (by kernel_rfl) _ _ hz' (by rw [rt_len (accs_len _) LI.out]; have := HK.out; omega) ?_); intro z2 hz2 oz2 sz2))
        rw [rt_set (accs_len _), HI.out, HT.out] at hz2
        go_ret
        exact ⟨by rw [HAT.out, HS.out]; rfl, ⟨hz2⟩, oz.trans oz2⟩
set_option maxHeartbeats 4000000 in
set_option maxRecDepth 100000 in
theorem rget_any (C : Nat) (t : Tree) (p : Int) (w : World) (ht : RAt w C t) (hg : Good t) :
    Calls Tryd.prog 16 #[.pointer (some ⟨C, 0, none⟩), .int .i64 p] w (GetPost w t p) := by
  have BZ := Lib.hid built_rza
  by_cases hneg : p < 0
  · have q1 : decide (p < (0 : Int)) = true := decide_eq_true (by omega)
    have hnot : ¬ (0 ≤ p ∧ p < 16) := by omega
    have HE : Hid (atI t p = none) := Lib.hid (at_far hg hnot)
    clear hg hnot
    go_enter Tryd.func16, Tryd.ntmps16
    go_wp2_with (first
      | ((with_reducible refine at_slot 4 ?_); (refine arm_alloc (o := ⟨some 4, _, _, _, _, _⟩) rfl _ rfl (acs za) z_racc ?_); intro Z v1 Ze hv1 nv1)
      | ((with_reducible refine at_slot 12 ?_); (refine arm_build (o := ⟨some 12, _, _, _, _, _⟩) rfl _ _ rfl (acs za) (by simp only [List.map_toArray, List.map_nil]; exact BZ.out) ?_))
      | ((with_reducible refine arm_store (o := ⟨none, _, _, _, _, _⟩) rfl _ _ _ rfl Z 0 rfl (acs za) rfl _ _ (hv1) (fitA za) (acs_one _) (sz_racc za) ?_); intro y9 hy9 oy9 sy9))
    have hbv1 := nv1.below
    have rrv1 : Row v1 Z 31 (acs za) := hv1
    have geZ : w.heap.size ≤ Z := by have := Ze.out; omega
    clear hv1 nv1 Ze
    have bel_2 : Below w.heap.size w v1 := hbv1
    clear hbv1
    exact bodyPost_ret (result_row2 (p := 4) (u := 5) (ty := 31) (t := 31) (by kernel_rfl) _ _ Z (acs za) (.bool false) rfl rfl (hy9.congr (allA za)) (sz_racc za)) rfl ⟨by rw [HE.out]; rfl, below_only bel_2 oy9 geZ bel_2.size⟩
  · have q1 : decide (p < (0 : Int)) = false := decide_eq_false (by omega)
    by_cases hbig : 15 < p
    · have q2 : decide ((15 : Int) < p) = true := decide_eq_true (by omega)
      have hnot : ¬ (0 ≤ p ∧ p < 16) := by omega
      have HE : Hid (atI t p = none) := Lib.hid (at_far hg hnot)
      clear hg hnot
      go_enter Tryd.func16, Tryd.ntmps16
      go_wp2_with (first
        | ((with_reducible refine at_slot 4 ?_); (refine arm_alloc (o := ⟨some 4, _, _, _, _, _⟩) rfl _ rfl (acs za) z_racc ?_); intro Z v1 Ze hv1 nv1)
        | ((with_reducible refine at_slot 12 ?_); (refine arm_build (o := ⟨some 12, _, _, _, _, _⟩) rfl _ _ rfl (acs za) (by simp only [List.map_toArray, List.map_nil]; exact BZ.out) ?_))
        | ((with_reducible refine arm_store (o := ⟨none, _, _, _, _, _⟩) rfl _ _ _ rfl Z 0 rfl (acs za) rfl _ _ (hv1) (fitA za) (acs_one _) (sz_racc za) ?_); intro y9 hy9 oy9 sy9))
      have hbv1 := nv1.below
      have rrv1 : Row v1 Z 31 (acs za) := hv1
      have geZ : w.heap.size ≤ Z := by have := Ze.out; omega
      clear hv1 nv1 Ze
      have bel_2 : Below w.heap.size w v1 := hbv1
      clear hbv1
      exact bodyPost_ret (result_row2 (p := 4) (u := 5) (ty := 31) (t := 31) (by kernel_rfl) _ _ Z (acs za) (.bool false) rfl rfl (hy9.congr (allA za)) (sz_racc za)) rfl ⟨by rw [HE.out]; rfl, below_only bel_2 oy9 geZ bel_2.size⟩
    · have q2 : decide ((15 : Int) < p) = false := decide_eq_false (by omega)
      obtain ⟨k, hk⟩ : ∃ k : Nat, p = (k : Int) := ⟨p.toNat, by omega⟩
      subst hk
      have hk16 : k < 16 := by omega
      obtain ⟨x, hx⟩ : ∃ x, x = (t k).getD za := ⟨_, rfl⟩
      obtain ⟨b, hb⟩ : ∃ b, b = (t k).isSome := ⟨_, rfl⟩
      have HAT : Hid (atI t (k : Int) = t k) := Lib.hid (at_nat t k)
      have HX := Lib.hid hx; have HB := Lib.hid hb
      have KX := Lib.hid (sz_racc x)
      have HK := Lib.hid hk16
      have HR : Hid (∀ w0, Row w0 C 35 (rtcs (accs t) (iss t)) → w0.rangeAt C (k * 3) (acs x) ∧ w0.cell? ⟨C, 48 + k, none⟩ = some (.bool b)) := Lib.hid fun w0 h => ⟨hx ▸ RAt.acc ⟨h⟩ hk16, hb ▸ RAt.is ⟨h⟩ hk16⟩
      have hrow := ht.row
      clear hg hx hb hneg hbig hk16 ht
      go_enter Tryd.func16, Tryd.ntmps16
      go_wp2_with (first
        | ((with_reducible refine at_slot 4 ?_); (refine arm_alloc (o := ⟨some 4, _, _, _, _, _⟩) rfl _ rfl (acs za) z_racc ?_); intro Z v1 Ze hv1 nv1))
      have hbv1 := nv1.below
      have rrv1 : Row v1 Z 31 (acs za) := hv1
      have geZ : w.heap.size ≤ Z := by have := Ze.out; omega
      clear hv1 nv1 Ze
      have C_2 : Row v1 C 35 (rtcs (accs t) (iss t)) := hrow.old hbv1
      have bel_2 : Below w.heap.size w v1 := hbv1
      clear hrow hbv1
      go_wp2_with fail
      refine wp_region_held (S := fun w' => Row w' C 35 (rtcs (accs t) (iss t)) ∧ True) (by kernel_rfl) ?_
      change wpAnyH _ _ _ _ _ _ _ _ v1.drew
      have hd3 : Below v1.heap.size v1 v1.drew := (Below.refl _ _).drew
      have C_4 : Row v1.drew C 35 (rtcs (accs t) (iss t)) := C_2.old hd3
      have Z_4 : Row v1.drew Z 31 (acs za) := rrv1.old hd3
      have bel_4 : Below w.heap.size w v1.drew := below_step bel_2 bel_2.size hd3
      clear C_2 rrv1 bel_2 hd3
      generalize v1.drew = yz3 at C_4 Z_4 bel_4 ⊢
      refine h_take 0 (.pointer (some ⟨C, 0, none⟩)) rfl 13 rfl (by kernel_rfl) (by kernel_rfl) (by kernel_rfl) (by kernel_rfl) (fun _ _ _ h => h) (fun w' _ => by kernel_rfl) ⟨C_4, trivial⟩ ?_
      simp only [Act.put, List.setIfInBounds_toArray, List.set_cons_zero, List.set_cons_succ]
      refine h_take 1 (.int .i64 (k : Int)) rfl 14 rfl (by kernel_rfl) (by kernel_rfl) (by kernel_rfl) (by kernel_rfl) (fun _ _ _ h => h) (fun w' _ => by kernel_rfl) ⟨C_4, trivial⟩ ?_
      simp only [Act.put, List.setIfInBounds_toArray, List.set_cons_zero, List.set_cons_succ]
      refine h_take 2 (.pointer (some ⟨C, 0, none⟩)) rfl 15 rfl (by kernel_rfl) (by kernel_rfl) (by kernel_rfl) (by kernel_rfl) (fun _ _ _ h => h) (fun w' _ => by kernel_rfl) ⟨C_4, trivial⟩ ?_
      simp only [Act.put, List.setIfInBounds_toArray, List.set_cons_zero, List.set_cons_succ]
      refine h_take 3 (.pointer (some ⟨C, 0, none⟩)) rfl 16 rfl (by kernel_rfl) (by kernel_rfl) (by kernel_rfl) (by kernel_rfl) (fun _ _ _ h => h) (fun w' _ => by kernel_rfl) ⟨C_4, trivial⟩ ?_
      simp only [Act.put, List.setIfInBounds_toArray, List.set_cons_zero, List.set_cons_succ]
      refine h_take 4 (.pointer (some ⟨C, k * 3, none⟩)) rfl 17 rfl (by kernel_rfl) (by kernel_rfl) (by kernel_rfl) (by kernel_rfl) (fun _ _ _ h => h) (fun w' _ => run_op_arr _ _ _ rfl 16 31 3 (by kernel_rfl) (by kernel_rfl) C 0 rfl .i64 _ rfl k rfl HK.out (k * 3) (by omega) w') ⟨C_4, trivial⟩ ?_
      simp only [Act.put, List.setIfInBounds_toArray, List.set_cons_zero, List.set_cons_succ]
      refine h_take 5 (.agg (acs x).toArray) rfl 18 rfl (by kernel_rfl) (by kernel_rfl) (by kernel_rfl) (by kernel_rfl) (fun _ _ _ h => h) (fun w' hw => run_op_load _ _ rfl C (k * 3) rfl (acs x) (HR.out w' hw.1).1 KX.out) ⟨C_4, trivial⟩ ?_
      simp only [Act.put, List.setIfInBounds_toArray, List.set_cons_zero, List.set_cons_succ]
      refine h_take 6 (.pointer (some ⟨C, 0, none⟩)) rfl 19 rfl (by kernel_rfl) (by kernel_rfl) (by kernel_rfl) (by kernel_rfl) (fun _ _ _ h => h) (fun w' _ => by kernel_rfl) ⟨C_4, trivial⟩ ?_
      simp only [Act.put, List.setIfInBounds_toArray, List.set_cons_zero, List.set_cons_succ]
      refine h_take 7 (.int .i64 (k : Int)) rfl 20 rfl (by kernel_rfl) (by kernel_rfl) (by kernel_rfl) (by kernel_rfl) (fun _ _ _ h => h) (fun w' _ => by kernel_rfl) ⟨C_4, trivial⟩ ?_
      simp only [Act.put, List.setIfInBounds_toArray, List.set_cons_zero, List.set_cons_succ]
      refine h_take 8 (.pointer (some ⟨C, 0, none⟩)) rfl 21 rfl (by kernel_rfl) (by kernel_rfl) (by kernel_rfl) (by kernel_rfl) (fun _ _ _ h => h) (fun w' _ => by kernel_rfl) ⟨C_4, trivial⟩ ?_
      simp only [Act.put, List.setIfInBounds_toArray, List.set_cons_zero, List.set_cons_succ]
      refine h_take 9 (.pointer (some ⟨C, 48, none⟩)) rfl 22 rfl (by kernel_rfl) (by kernel_rfl) (by kernel_rfl) (by kernel_rfl) (fun _ _ _ h => h) (fun w' _ => by kernel_rfl) ⟨C_4, trivial⟩ ?_
      simp only [Act.put, List.setIfInBounds_toArray, List.set_cons_zero, List.set_cons_succ]
      refine h_take 10 (.pointer (some ⟨C, 48 + k, none⟩)) rfl 23 rfl (by kernel_rfl) (by kernel_rfl) (by kernel_rfl) (by kernel_rfl) (fun _ _ _ h => h) (fun w' _ => run_op_arr _ _ _ rfl 16 4 1 (by kernel_rfl) (by kernel_rfl) C 48 rfl .i64 _ rfl k rfl HK.out (48 + k) (by omega) w') ⟨C_4, trivial⟩ ?_
      simp only [Act.put, List.setIfInBounds_toArray, List.set_cons_zero, List.set_cons_succ]
      refine h_take 11 (.bool b) rfl 24 rfl (by kernel_rfl) (by kernel_rfl) (by kernel_rfl) (by kernel_rfl) (fun _ _ _ h => h) (fun w' hw => run_op_load1 _ _ rfl .bool (by kernel_rfl) rfl ⟨C, 48 + k, none⟩ rfl _ (HR.out w' hw.1).2) ⟨C_4, trivial⟩ ?_
      simp only [Act.put, List.setIfInBounds_toArray, List.set_cons_zero, List.set_cons_succ]
      have hCZ : C ≠ Z := fun e => by subst e; exact racc_ne_tree Z_4 C_4
      refine h_one (i := 12) (by kernel_rfl) (o_skip rfl rfl (by kernel_rfl) (run_op_store _ _ _ rfl Z (0) rfl (acs x) rfl _ _ Z_4 (fitA x) (acs_one _) KX.out) ?_)
      have rq := row_setRow Z_4 (lay (acs za) (0) (acs x))
      have oq := Only.setRow Z yz3 (lay (acs za) (0) (acs x)).toArray
      generalize yz3.setRow Z (lay (acs za) (0) (acs x)).toArray = y5 at rq oq ⊢
      have C_6 : Row y5 C 35 (rtcs (accs t) (iss t)) := C_4.only oq hCZ
      have Z_6 : Row y5 Z 31 (acs x) := rq.congr (allA x)
      have bel_6 : Below w.heap.size w y5 := below_only bel_4 oq geZ bel_4.size
      clear C_4 Z_4 bel_4 oq
      clear rq
      refine ⟨⟨C_6, trivial⟩, ?_⟩
      refine h_take 13 (.bool b) rfl 5 rfl (by kernel_rfl) (by kernel_rfl) (by kernel_rfl) (by kernel_rfl) (fun _ _ _ h => h) (fun w' _ => by kernel_rfl) ⟨C_6, trivial⟩ ?_
      simp only [Act.put, List.setIfInBounds_toArray, List.set_cons_zero, List.set_cons_succ]
      refine wpAnyH_done (by kernel_rfl) ?_ _
      go_wp2_with fail
      exact bodyPost_ret (result_row2 (p := 4) (u := 5) (ty := 31) (t := 31) (by kernel_rfl) _ _ Z (acs x) (.bool b) rfl rfl Z_6 KX.out) rfl ⟨by rw [HAT.out, HX.out, HB.out], bel_6⟩
structure RlRel (w : World) (C : Nat) (t : Tree) (i n : Value) (wr : World) : Prop where
  ex : ∃ k : Nat, k ≤ 16 ∧ i = .int .i64 (k : Int) ∧ n = .int .i64 (cntM t k : Int)
  eq : wr = w
theorem cnt_le (t : Tree) : ∀ k, cntM t k ≤ k
  | 0 => Nat.le_refl _
  | k + 1 => by unfold cntM; have := cnt_le t k; split <;> omega
set_option maxHeartbeats 4000000 in
set_option maxRecDepth 100000 in
theorem rlen_any (C : Nat) (t : Tree) (w : World) (ht : RAt w C t) :
    Calls Tryd.prog 14 #[.pointer (some ⟨C, 0, none⟩)] w fun e w' => e = .returned (.int .i64 (cntM t 16 : Int)) ∧ Below w.heap.size w w' := by
  go_enter Tryd.func14, Tryd.ntmps14
  go_wp2_with fail
  try simp only [Act.put]
  have h0 : RlRel w C t (.int .i64 0) (.int .i64 0) w := ⟨⟨0, by omega, rfl, rfl⟩, rfl⟩
  go_loopw [4, 3] (fun i n wr => RlRel w C t i n wr) (fun i _ _ => 16 - (intOf i).toNat)
  case atStart => exact h0
  case round =>
    clear h0
    obtain ⟨⟨k, hk, rfl, rfl⟩, rfl⟩ := hrel
    by_cases hlt : k < 16
    · have ik : (k : Int) < 16 := by omega
      have hcb := ht.is hlt
      have hc := cnt_le t k
      obtain ⟨b, hb⟩ : ∃ b, b = (t k).isSome := ⟨_, rfl⟩
      rw [← hb] at hcb
      have HK := Lib.hid hlt
      have HC : Hid (cntM t (k + 1) = cntM t k + if b then 1 else 0) := Lib.hid (by rw [hb]; rfl)
      generalize cntM t k = n at hc HC ⊢
      clear hb
      cases b
      · skip
        go_wp2_with (first
          | ((with_reducible refine at_slot 13 ?_); (refine arm_want (.pointer (some ⟨C, 48 + k, none⟩)) 13 rfl (by kernel_rfl) (run_op_arr _ _ _ rfl 16 4 1 (by kernel_rfl) (by kernel_rfl) C 48 rfl .i64 _ rfl k rfl HK.out (48 + k) (by omega) _) ?_))
          | ((with_reducible refine at_slot 14 ?_); (refine arm_want (.bool false) 14 rfl (by kernel_rfl) (run_op_load1 _ _ rfl .bool (by kernel_rfl) rfl ⟨C, 48 + k, none⟩ rfl _ hcb) ?_)))
        try simp only [Act.put]
        go_roundw
        case rel => exact ⟨⟨k + 1, by omega, by go_num, by rw [HC.out]; rfl⟩, rfl⟩
        case measure => simp [intOf]; omega
      · skip
        go_wp2_with (first
          | ((with_reducible refine at_slot 13 ?_); (refine arm_want (.pointer (some ⟨C, 48 + k, none⟩)) 13 rfl (by kernel_rfl) (run_op_arr _ _ _ rfl 16 4 1 (by kernel_rfl) (by kernel_rfl) C 48 rfl .i64 _ rfl k rfl HK.out (48 + k) (by omega) _) ?_))
          | ((with_reducible refine at_slot 14 ?_); (refine arm_want (.bool true) 14 rfl (by kernel_rfl) (run_op_load1 _ _ rfl .bool (by kernel_rfl) rfl ⟨C, 48 + k, none⟩ rfl _ hcb) ?_)))
        try simp only [Act.put]
        go_roundw
        case rel => exact ⟨⟨k + 1, by omega, by go_num, by rw [HC.out]; simp only [if_true]; go_num⟩, rfl⟩
        case measure => simp [intOf]; omega
    · obtain rfl : k = 16 := by omega
      go_wp2_with fail
      go_ret
      exact ⟨rfl, Below.refl _ _⟩
end Go.Proofs.YtpebadhknpohkaaDoor.Tr
