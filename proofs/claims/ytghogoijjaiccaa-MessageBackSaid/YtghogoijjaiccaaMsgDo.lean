/-
  The contracts of package message's reading (it answers a method value) and Read. Over this seat's translation.
-/
import Derived.Test.YtghogoijjaiccaaMsgRead
import Derived.Test.YtghogoijjaiccaaPrfAll
namespace Go.Proofs.Ytghogoijjaiccaa.Ms
open Go.ChangeShapes Go.WideShapes Go.ChangeAt Go.RowKit Go.Proofs.Ytghogoijjaiccaa.Mem Go.Proofs.Ytghogoijjaiccaa.Bt Go.Proofs.Ytghogoijjaiccaa.Wi Go.Proofs.Ytghogoijjaiccaa.Ac Go.Proofs.Ytghogoijjaiccaa.Tr Go.Proofs.Ytghogoijjaiccaa.Pf
open Go.Proofs.Ytghogoijjaiccaa.Tg (bytesOf bytesOf_length bytesOf_lt bytesOf_inj Rd Rd.below)
open Go.Proofs.Ytghogoijjaiccaa.Ep (H32 zh zh_ok Has Has.refl Has.left Has.right Has.head Has.get Has.chunk Has.range h_len szH zH fitH allH one_app num32)
open Go.Proofs.Ytghogoijjaiccaa.Sa (Sta scs scs_len scs_one zs zs_ok scs_app staB staB_len SRt rdS rdS_ok sz_sta z_sta sz_rsta z_rsta fitS allS)
set_option linter.unusedVariables false
set_option linter.unusedSimpArgs false

structure MReadPost (w : World) (b : List Nat) (e : Ending) (w' : World) : Prop where
  ret : e = .returned (.tuple #[.agg (mcs (rdM b).1).toArray, .int .i64 ((rdM b).2 : Int)])
  bel : Below w.heap.size w w'
theorem mkind_of (q : Nat) : (mcs (ofK q))[0]? = some (.int .u8 (q : Int)) := rfl
set_option maxHeartbeats 4000000 in
set_option maxRecDepth 100000 in
theorem reading1_any (M : Nat) (w : World) (hM : Row w M 42 (mcs (ofK 1))) :
    Calls Try.prog 28 #[.pointer (some ⟨M, 0, none⟩)] w fun e w' => e = .returned (.func (.func 47) #[.pointer (some ⟨M, 0, none⟩)] #[]) ∧ w = w' := by
  have hc : w.cell? ⟨M, 0, none⟩ = some (.int .u8 (1 : Int)) := hM.cell (mkind_of 1)
  clear hM
  go_enter Try.func28, Try.ntmps28
  go_wp2_with (first
    | ((with_reducible refine at_slot 10 ?_); (refine arm_want (.func (.func 47) #[.pointer (some ⟨M, 0, none⟩)] #[]) 10 rfl (by kernel_rfl) (run_op_makeFunc _ _ _ rfl _ _ (by simp only [List.map_toArray, List.map_cons, List.map_nil]; rfl) (by simp only [List.map_toArray, List.map_nil]) _) ?_); try simp only [Act.put, List.setIfInBounds_toArray, List.set_cons_zero, List.set_cons_succ]))
  go_ret
  exact ⟨rfl, rfl⟩
set_option maxHeartbeats 4000000 in
set_option maxRecDepth 100000 in
theorem reading2_any (M : Nat) (w : World) (hM : Row w M 42 (mcs (ofK 2))) :
    Calls Try.prog 28 #[.pointer (some ⟨M, 0, none⟩)] w fun e w' => e = .returned (.func (.func 48) #[.pointer (some ⟨M, 0, none⟩)] #[]) ∧ w = w' := by
  have hc : w.cell? ⟨M, 0, none⟩ = some (.int .u8 (2 : Int)) := hM.cell (mkind_of 2)
  clear hM
  go_enter Try.func28, Try.ntmps28
  go_wp2_with (first
    | ((with_reducible refine at_slot 14 ?_); (refine arm_want (.func (.func 48) #[.pointer (some ⟨M, 0, none⟩)] #[]) 14 rfl (by kernel_rfl) (run_op_makeFunc _ _ _ rfl _ _ (by simp only [List.map_toArray, List.map_cons, List.map_nil]; rfl) (by simp only [List.map_toArray, List.map_nil]) _) ?_); try simp only [Act.put, List.setIfInBounds_toArray, List.set_cons_zero, List.set_cons_succ]))
  go_ret
  exact ⟨rfl, rfl⟩
set_option maxHeartbeats 4000000 in
set_option maxRecDepth 100000 in
theorem reading3_any (M : Nat) (w : World) (hM : Row w M 42 (mcs (ofK 3))) :
    Calls Try.prog 28 #[.pointer (some ⟨M, 0, none⟩)] w fun e w' => e = .returned (.func (.func 49) #[.pointer (some ⟨M, 0, none⟩)] #[]) ∧ w = w' := by
  have hc : w.cell? ⟨M, 0, none⟩ = some (.int .u8 (3 : Int)) := hM.cell (mkind_of 3)
  clear hM
  go_enter Try.func28, Try.ntmps28
  go_wp2_with (first
    | ((with_reducible refine at_slot 18 ?_); (refine arm_want (.func (.func 49) #[.pointer (some ⟨M, 0, none⟩)] #[]) 18 rfl (by kernel_rfl) (run_op_makeFunc _ _ _ rfl _ _ (by simp only [List.map_toArray, List.map_cons, List.map_nil]; rfl) (by simp only [List.map_toArray, List.map_nil]) _) ?_); try simp only [Act.put, List.setIfInBounds_toArray, List.set_cons_zero, List.set_cons_succ]))
  go_ret
  exact ⟨rfl, rfl⟩
set_option maxHeartbeats 4000000 in
set_option maxRecDepth 100000 in
theorem reading4_any (M : Nat) (w : World) (hM : Row w M 42 (mcs (ofK 4))) :
    Calls Try.prog 28 #[.pointer (some ⟨M, 0, none⟩)] w fun e w' => e = .returned (.func (.func 50) #[.pointer (some ⟨M, 0, none⟩)] #[]) ∧ w = w' := by
  have hc : w.cell? ⟨M, 0, none⟩ = some (.int .u8 (4 : Int)) := hM.cell (mkind_of 4)
  clear hM
  go_enter Try.func28, Try.ntmps28
  go_wp2_with (first
    | ((with_reducible refine at_slot 22 ?_); (refine arm_want (.func (.func 50) #[.pointer (some ⟨M, 0, none⟩)] #[]) 22 rfl (by kernel_rfl) (run_op_makeFunc _ _ _ rfl _ _ (by simp only [List.map_toArray, List.map_cons, List.map_nil]; rfl) (by simp only [List.map_toArray, List.map_nil]) _) ?_); try simp only [Act.put, List.setIfInBounds_toArray, List.set_cons_zero, List.set_cons_succ]))
  go_ret
  exact ⟨rfl, rfl⟩
set_option maxHeartbeats 4000000 in
set_option maxRecDepth 100000 in
theorem reading5_any (q : Nat) (hq : ¬ (1 ≤ q ∧ q ≤ 4)) (M : Nat) (w : World) (hM : Row w M 42 (mcs (ofK q))) :
    Calls Try.prog 28 #[.pointer (some ⟨M, 0, none⟩)] w fun e w' => e = .returned (.func (.func 51) #[.pointer (some ⟨M, 0, none⟩)] #[]) ∧ w = w' := by
  have hc : w.cell? ⟨M, 0, none⟩ = some (.int .u8 (q : Int)) := hM.cell (mkind_of q)
  have e1 : ((q : Int) == 1) = false := by simp; omega
  have e2 : ((q : Int) == 2) = false := by simp; omega
  have e3 : ((q : Int) == 3) = false := by simp; omega
  have e4 : ((q : Int) == 4) = false := by simp; omega
  clear hq
  clear hM
  go_enter Try.func28, Try.ntmps28
  go_wp2_with (first
    | ((with_reducible refine at_slot 24 ?_); (refine arm_want (.func (.func 51) #[.pointer (some ⟨M, 0, none⟩)] #[]) 24 rfl (by kernel_rfl) (run_op_makeFunc _ _ _ rfl _ _ (by simp only [List.map_toArray, List.map_cons, List.map_nil]; rfl) (by simp only [List.map_toArray, List.map_nil]) _) ?_); try simp only [Act.put, List.setIfInBounds_toArray, List.set_cons_zero, List.set_cons_succ]))
  go_ret
  exact ⟨rfl, rfl⟩
set_option maxHeartbeats 4000000 in
set_option maxRecDepth 100000 in
theorem mread_k (x f : Nat) (fn : Func) (hf : Try.prog.funcs[f]? = some fn) (hb : fn.body.isNone = false) (hnm : (fn.name == "runtime.NumGoroutine") = false)
    (cr : ∀ M w0, Row w0 M 42 (mcs (ofK x)) → Calls Try.prog 28 #[.pointer (some ⟨M, 0, none⟩)] w0 fun e w' => e = .returned (.func (.func f) #[.pointer (some ⟨M, 0, none⟩)] #[]) ∧ w0 = w')
    (cf : ∀ (b : List Nat) (p : Option Addr) (cap M : Nat) (w0 : World), Row w0 M 42 (mcs (ofK x)) → Rd w0 p b → (p = none → b.length = 0 ∧ cap = 0) → b.length ≤ 1000 → AllLt 256 b → Calls Try.prog f #[.pointer (some ⟨M, 0, none⟩), .slice p b.length cap] w0 (RMPost w0 M x b))
    (r : List Nat) (p : Option Addr) (cap : Nat) (w : World) (hc : Bt.Came w p cap (x :: r)) (hl : r.length ≤ 599) (n : Nat) (hn : n = r.length + 1) :
    Calls Try.prog 10 #[.slice p n cap] w (MReadPost w (x :: r)) := by
  have HF := Lib.hid hf; have HBD := Lib.hid hb; have HNM := Lib.hid hnm; have CR := Lib.hid cr
  obtain ⟨g, o, rfl, hr⟩ := hc.at_ (by simp)
  have hx : x < 256 := hc.lt_ x (by simp)
  have HC0 : Hid (∀ w', Below w.heap.size w w' → w'.cell? ⟨g, o + 0, none⟩ = some (.int .u8 (x : Int))) := Lib.hid fun w' hb => cell_below (b := x :: r) (i := 0) hr (by simp) hb
  have hT := hc.tail (m := 1) (by simp)
  have CF : Hid (∀ M w0, Row w0 M 42 (mcs (ofK x)) → Below w.heap.size w w0 → Calls Try.prog f #[.pointer (some ⟨M, 0, none⟩), .slice (onP (some ⟨g, o, none⟩) 1 cap) (n - 1) (cap - 1)] w0 (RMPost w0 M x r)) := Lib.hid fun M w0 h hbel => by
    rw [show n - 1 = r.length by omega]
    exact cf r _ _ M w0 h (Rd.below ⟨hT.at_⟩ hbel) (fun e => by have h1 := hT.nil_ e; have h2 := hT.cap_; simp only [List.drop_succ_cons, List.drop_zero] at h2; omega) (by omega) (fun y hy => hc.lt_ y (by simp [hy]))
  have KX := Lib.hid (ofK_ok hx)
  have HRD := Lib.hid (rd_cons (x := x) hl)
  have HWR : Hid ((rdK x r).2 ≠ 0 → (rdK x r).1 = zm) := Lib.hid fun h => by rw [← rd_cons (x := x) hl] at h ⊢; exact rd_wrong h
  have HN0 : Hid (0 < n) := Lib.hid (by omega)
  have HN1 : Hid (1 ≤ n) := Lib.hid (by omega)
  have d1 : decide ((600 : Int) < (n : Int)) = false := decide_eq_false (by omega)
  have d2 : ((n : Int) == 0) = false := by simp; omega
  obtain ⟨ee, hee⟩ : ∃ z, z = (rdK x r).2 := ⟨_, rfl⟩
  obtain ⟨mm, hmm⟩ : ∃ z, z = (rdK x r).1 := ⟨_, rfl⟩
  have CF3 : Hid (∀ M w0, Row w0 M 42 (mcs (ofK x)) → Below w.heap.size w w0 → Calls Try.prog f #[.pointer (some ⟨M, 0, none⟩), .slice (onP (some ⟨g, o, none⟩) 1 cap) (n - 1) (cap - 1)] w0 fun e w' => e = .returned (.int .i64 (ee : Int)) ∧ (∃ nm : Msg, Row w' M 42 (mcs nm) ∧ nm.Ok ∧ (ee = 0 → nm = mm)) ∧ Only M w0 w') := Lib.hid fun M w0 h hbel => (CF.out M w0 h hbel).mono fun e w' h => by rw [hee, hmm]; exact ⟨h.ret, h.ex, h.only⟩
  rw [← hee, ← hmm] at HWR
  have HEE := Lib.hid hee; have HMM := Lib.hid hmm
  clear hf hb hnm cr cf hc hr hT hx hn hl hee hmm CF
  go_enter Try.func10, Try.ntmps10
  go_wp2_with (first
    | ((with_reducible refine at_slot 2 ?_); (refine arm_alloc (o := ⟨some 2, _, _, _, _, _⟩) rfl _ rfl (mcs zm) z_msg ?_); intro Z v1 Ze hv1 nv1; try simp only [Act.put, List.setIfInBounds_toArray, List.set_cons_zero, List.set_cons_succ])
    | ((with_reducible refine at_slot 16 ?_); (refine Pf.pause ?_); try simp only [Act.put, List.setIfInBounds_toArray, List.set_cons_zero, List.set_cons_succ]))
  have hbv1 := nv1.below
  have rrv1 : Row v1 Z 42 (mcs zm) := hv1
  have geZ : w.heap.size ≤ Z := by have := Ze.out; omega
  clear hv1 nv1 Ze
  have bel_2 : Below w.heap.size w v1 := hbv1
  clear hbv1
  refine Pf.go_on ?_
  go_wp2_with (first
    | ((with_reducible refine at_slot 16 ?_); (refine arm_want (.pointer (some ⟨g, o + 0, none⟩)) 16 rfl (by kernel_rfl) (run_op_idxS _ _ _ rfl 5 (by kernel_rfl) (by kernel_rfl) g o n cap rfl .i64 _ rfl 0 rfl HN0.out _) ?_); try simp only [Act.put, List.setIfInBounds_toArray, List.set_cons_zero, List.set_cons_succ])
    | ((with_reducible refine at_slot 17 ?_); (refine arm_want (.int .u8 (x : Int)) 17 rfl (by kernel_rfl) (run_op_load8 _ rfl ⟨g, o + 0, none⟩ rfl _ (HC0.out _ bel_2)) ?_); try simp only [Act.put, List.setIfInBounds_toArray, List.set_cons_zero, List.set_cons_succ])
    | ((with_reducible refine at_slot 18 ?_); (refine arm_build (o := ⟨some 18, _, _, _, _, _⟩) rfl _ _ rfl (mcs (ofK x)) (by simp only [List.map_toArray, List.map_cons, List.map_nil]; exact built_mk x) ?_); try simp only [Act.put, List.setIfInBounds_toArray, List.set_cons_zero, List.set_cons_succ])
    | ((with_reducible refine at_slot 4 ?_); (refine arm_alloc (o := ⟨some 4, _, _, _, _, _⟩) rfl _ rfl (mcs zm) z_msg ?_); intro M v3a Me hMa nM; try simp only [Act.put, List.setIfInBounds_toArray, List.set_cons_zero, List.set_cons_succ])
    | ((with_reducible refine arm_store (o := ⟨none, _, _, _, _, _⟩) rfl _ _ _ rfl M 0 rfl (mcs (ofK x)) rfl _ _ hMa (fitM KX.out) (mcs_one _) (sz_msg KX.out) ?_); intro v3 hMb oM sM; try simp only [Act.put, List.setIfInBounds_toArray, List.set_cons_zero, List.set_cons_succ]))
  have lM : v1.heap.size ≤ M := by have := Me.out; omega
  have bM : Below v1.heap.size v1 v3 := below_only nM.below oM lM nM.below.size
  have rrM : Row v3 M 42 (mcs (ofK x)) := hMb.congr (allM KX.out)
  have geM : w.heap.size ≤ M := Nat.le_trans bel_2.size lM
  have neZM : Z ≠ M := by have := rrv1.lt; omega
  clear hMa hMb nM oM sM Me lM
  have Z_4 : Row v3 Z 42 (mcs zm) := rrv1.old bM
  have bel_4 : Below w.heap.size w v3 := below_step bel_2 bel_2.size bM
  clear rrv1 bel_2 bM
  refine (CR.out M _ rrM).mono ?_
  rintro e z5 ⟨rfl, rfl⟩
  go_wp2_with (first
    | ((with_reducible refine at_slot 22 ?_); (refine arm_tail (o := ⟨some 22, _, _, _, _, _⟩) rfl _ _ _ rfl 5 (by kernel_rfl) (by kernel_rfl) (some ⟨g, o, none⟩) n cap rfl .i64 _ rfl 1 rfl HN1.out ?_); try simp only [Act.put, List.setIfInBounds_toArray, List.set_cons_zero, List.set_cons_succ])
    | ((with_reducible refine at_slot 23 ?_); (refine arm_callM (o := ⟨some 23, _, _, _, _, _⟩) rfl 23 rfl f _ _ _ rfl _ rfl #[.slice (onP (some ⟨g, o, none⟩) 1 cap) (n - 1) (cap - 1)] (by simp only [List.map_toArray, List.map_cons, List.map_nil]; rfl) HF.out HBD.out HNM.out (CF3.out M _ rrM bel_4) ?_); rintro e wq ⟨rfl, ⟨nm, hMn, kn, hz⟩, hO⟩; refine ⟨_, rfl, ?_⟩; try simp only [Act.put, List.setIfInBounds_toArray, List.set_cons_zero, List.set_cons_succ]; refine Pf.pause ?_; try simp only [Act.put, List.setIfInBounds_toArray, List.set_cons_zero, List.set_cons_succ]))
  refine Pf.go_on ?_
  have Z_6 : Row wq Z 42 (mcs zm) := Z_4.only hO neZM
  have M_6 : Row wq M 42 (mcs nm) := hMn
  have bel_6 : Below w.heap.size w wq := below_only bel_4 hO geM bel_4.size
  clear Z_4 rrM bel_4 hO
  have KN := Lib.hid kn; have HZ := Lib.hid hz; clear kn hz
  by_cases he : ee = 0
  · have hz : ((ee : Int) != 0) = false := by rw [he]; rfl
    have HNM2 := Lib.hid (HZ.out he); have HE0 := Lib.hid he; clear he HZ HWR
    go_wp2_with (first
      | ((with_reducible refine at_slot 28 ?_); (refine arm_load (o := ⟨some 28, _, _, _, _, _⟩) rfl _ _ rfl M 0 rfl (mcs nm) ((Has.refl _).range M_6) (sz_msg KN.out) ?_); try simp only [Act.put, List.setIfInBounds_toArray, List.set_cons_zero, List.set_cons_succ])
      | ((with_reducible refine arm_store (o := ⟨none, _, _, _, _, _⟩) rfl _ _ _ rfl Z 0 rfl (mcs nm) rfl _ _ (Z_6) (fitM KN.out) (mcs_one _) (sz_msg KN.out) ?_); intro y9 hy9 oy9 sy9; try simp only [Act.put, List.setIfInBounds_toArray, List.set_cons_zero, List.set_cons_succ]))
    exact bodyPost_ret (result_row2 (p := 2) (u := 3) (ty := 42) (t := 42) (by kernel_rfl) _ _ Z (mcs nm) (.int .i64 0) rfl rfl (hy9.congr (allM KN.out)) (sz_msg KN.out)) rfl ⟨by rw [HRD.out, ← HEE.out, ← HMM.out, HNM2.out, HE0.out]; rfl, below_only bel_6 oy9 geZ bel_6.size⟩
  · have hz : ((ee : Int) != 0) = true := by simp; omega
    have HM0 := Lib.hid (HWR.out he); clear he HZ HWR
    obtain ⟨z, hzz⟩ : ∃ z : Int, z = (ee : Int) := ⟨_, rfl⟩
    rw [← hzz] at hz ⊢
    have HZZ := Lib.hid hzz
    clear hzz
    go_wp2_with (first
      | ((with_reducible refine at_slot 26 ?_); (refine arm_build (o := ⟨some 26, _, _, _, _, _⟩) rfl _ _ rfl (mcs zm) (by simp only [List.map_toArray, List.map_nil]; exact built_m0) ?_); try simp only [Act.put, List.setIfInBounds_toArray, List.set_cons_zero, List.set_cons_succ])
      | ((with_reducible refine arm_store (o := ⟨none, _, _, _, _, _⟩) rfl _ _ _ rfl Z 0 rfl (mcs zm) rfl _ _ (Z_6) (fitM zm_ok) (mcs_one _) (sz_msg zm_ok) ?_); intro y9 hy9 oy9 sy9; try simp only [Act.put, List.setIfInBounds_toArray, List.set_cons_zero, List.set_cons_succ]))
    exact bodyPost_ret (result_row2 (p := 2) (u := 3) (ty := 42) (t := 42) (by kernel_rfl) _ _ Z (mcs zm) (.int .i64 z) rfl rfl (hy9.congr (allM zm_ok)) (sz_msg zm_ok)) rfl ⟨by rw [HRD.out, ← HEE.out, ← HMM.out, HM0.out, HZZ.out], below_only bel_6 oy9 geZ bel_6.size⟩
set_option maxHeartbeats 4000000 in
set_option maxRecDepth 100000 in
theorem mread_over (b : List Nat) (p : Option Addr) (cap : Nat) (w : World) (h : 600 < b.length) :
    Calls Try.prog 10 #[.slice p b.length cap] w (MReadPost w b) := by
  have HR := Lib.hid (rd_over h)
  have d1 : decide ((600 : Int) < (b.length : Int)) = true := decide_eq_true (by omega)
  clear h
  generalize b.length = n at d1 ⊢
  go_enter Try.func10, Try.ntmps10
  go_wp2_with (first
    | ((with_reducible refine at_slot 2 ?_); (refine arm_alloc (o := ⟨some 2, _, _, _, _, _⟩) rfl _ rfl (mcs zm) z_msg ?_); intro Z v1 Ze hv1 nv1; try simp only [Act.put, List.setIfInBounds_toArray, List.set_cons_zero, List.set_cons_succ])
    | ((with_reducible refine at_slot 10 ?_); (refine arm_build (o := ⟨some 10, _, _, _, _, _⟩) rfl _ _ rfl (mcs zm) (by simp only [List.map_toArray, List.map_nil]; exact built_m0) ?_); try simp only [Act.put, List.setIfInBounds_toArray, List.set_cons_zero, List.set_cons_succ])
    | ((with_reducible refine arm_store (o := ⟨none, _, _, _, _, _⟩) rfl _ _ _ rfl Z 0 rfl (mcs zm) rfl _ _ (hv1) (fitM zm_ok) (mcs_one _) (sz_msg zm_ok) ?_); intro y9 hy9 oy9 sy9; try simp only [Act.put, List.setIfInBounds_toArray, List.set_cons_zero, List.set_cons_succ]))
  have hbv1 := nv1.below
  have rrv1 : Row v1 Z 42 (mcs zm) := hv1
  have geZ : w.heap.size ≤ Z := by have := Ze.out; omega
  clear hv1 nv1 Ze
  have bel_2 : Below w.heap.size w v1 := hbv1
  clear hbv1
  exact bodyPost_ret (result_row2 (p := 2) (u := 3) (ty := 42) (t := 42) (by kernel_rfl) _ _ Z (mcs zm) (.int .i64 4) rfl rfl (hy9.congr (allM zm_ok)) (sz_msg zm_ok)) rfl ⟨by rw [HR.out]; rfl, below_only bel_2 oy9 geZ bel_2.size⟩
set_option maxHeartbeats 4000000 in
set_option maxRecDepth 100000 in
theorem mread_none (b : List Nat) (p : Option Addr) (cap : Nat) (w : World) (h : b = []) :
    Calls Try.prog 10 #[.slice p b.length cap] w (MReadPost w b) := by
  subst h
  have HR := Lib.hid rd_none
  go_enter Try.func10, Try.ntmps10
  go_wp2_with (first
    | ((with_reducible refine at_slot 2 ?_); (refine arm_alloc (o := ⟨some 2, _, _, _, _, _⟩) rfl _ rfl (mcs zm) z_msg ?_); intro Z v1 Ze hv1 nv1; try simp only [Act.put, List.setIfInBounds_toArray, List.set_cons_zero, List.set_cons_succ])
    | ((with_reducible refine at_slot 14 ?_); (refine arm_build (o := ⟨some 14, _, _, _, _, _⟩) rfl _ _ rfl (mcs zm) (by simp only [List.map_toArray, List.map_nil]; exact built_m0) ?_); try simp only [Act.put, List.setIfInBounds_toArray, List.set_cons_zero, List.set_cons_succ])
    | ((with_reducible refine arm_store (o := ⟨none, _, _, _, _, _⟩) rfl _ _ _ rfl Z 0 rfl (mcs zm) rfl _ _ (hv1) (fitM zm_ok) (mcs_one _) (sz_msg zm_ok) ?_); intro y9 hy9 oy9 sy9; try simp only [Act.put, List.setIfInBounds_toArray, List.set_cons_zero, List.set_cons_succ]))
  have hbv1 := nv1.below
  have rrv1 : Row v1 Z 42 (mcs zm) := hv1
  have geZ : w.heap.size ≤ Z := by have := Ze.out; omega
  clear hv1 nv1 Ze
  have bel_2 : Below w.heap.size w v1 := hbv1
  clear hbv1
  exact bodyPost_ret (result_row2 (p := 2) (u := 3) (ty := 42) (t := 42) (by kernel_rfl) _ _ Z (mcs zm) (.int .i64 3) rfl rfl (hy9.congr (allM zm_ok)) (sz_msg zm_ok)) rfl ⟨by rw [HR.out]; rfl, below_only bel_2 oy9 geZ bel_2.size⟩
theorem mread_any (b : List Nat) (p : Option Addr) (cap : Nat) (w : World) (hc : Bt.Came w p cap b) :
    Calls Try.prog 10 #[.slice p b.length cap] w (MReadPost w b) := by
  by_cases h1 : 600 < b.length
  · exact mread_over b p cap w h1
  by_cases h2 : b = []
  · exact mread_none b p cap w h2
  obtain ⟨x, r, rfl⟩ := List.exists_cons_of_ne_nil h2
  have hl : r.length ≤ 599 := by rw [List.length_cons] at h1; omega
  have hx : x < 256 := hc.lt_ x (by simp)
  by_cases g1 : x = 1
  · subst g1; exact mread_k 1 47 _ Try.func47 (by kernel_rfl) (by kernel_rfl) (fun M w0 h => reading1_any M w0 h) (fun b p cap M w0 h h1 h2 h3 h4 => read1_any b p cap M w0 h h1 h2 h3 h4) r p cap w hc hl _ (List.length_cons ..)
  by_cases g2 : x = 2
  · subst g2; exact mread_k 2 48 _ Try.func48 (by kernel_rfl) (by kernel_rfl) (fun M w0 h => reading2_any M w0 h) (fun b p cap M w0 h h1 h2 h3 h4 => read2_any b p cap M w0 h h1 h2 h3 h4) r p cap w hc hl _ (List.length_cons ..)
  by_cases g3 : x = 3
  · subst g3; exact mread_k 3 49 _ Try.func49 (by kernel_rfl) (by kernel_rfl) (fun M w0 h => reading3_any M w0 h) (fun b p cap M w0 h h1 h2 h3 h4 => read3_any b p cap M w0 h h1 h2 h3 h4) r p cap w hc hl _ (List.length_cons ..)
  by_cases g4 : x = 4
  · subst g4; exact mread_k 4 50 _ Try.func50 (by kernel_rfl) (by kernel_rfl) (fun M w0 h => reading4_any M w0 h) (fun b p cap M w0 h h1 h2 h3 h4 => read4_any b p cap M w0 h h1 h2 h3 h4) r p cap w hc hl _ (List.length_cons ..)
  have hq : ¬ (1 ≤ x ∧ x ≤ 4) := by omega
  exact mread_k x 51 _ Try.func51 (by kernel_rfl) (by kernel_rfl) (fun M w0 h => reading5_any x hq M w0 h) (fun b p cap M w0 h h1 h2 h3 h4 => read5_any x hq hx b p cap M w0 h h1 h2 h3 h4) r p cap w hc hl _ (List.length_cons ..)
end Go.Proofs.Ytghogoijjaiccaa.Ms
