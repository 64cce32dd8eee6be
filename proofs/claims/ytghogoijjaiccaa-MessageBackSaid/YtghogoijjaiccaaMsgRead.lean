/-
  The contracts of what reads the bytes behind a message's Kind: each a method value over the message. Over this seat's translation.
-/
import Derived.Test.YtghogoijjaiccaaMsgBytes
import Derived.Test.YtghogoijjaiccaaMsgText
import Derived.Test.YtghogoijjaiccaaAccAll
import Derived.Test.YtghogoijjaiccaaStaDo
namespace Go.Proofs.Ytghogoijjaiccaa.Ms
open Go.ChangeShapes Go.WideShapes Go.ChangeAt Go.RowKit Go.Proofs.Ytghogoijjaiccaa.Mem Go.Proofs.Ytghogoijjaiccaa.Bt Go.Proofs.Ytghogoijjaiccaa.Wi Go.Proofs.Ytghogoijjaiccaa.Ac Go.Proofs.Ytghogoijjaiccaa.Tr Go.Proofs.Ytghogoijjaiccaa.Pf
open Go.Proofs.Ytghogoijjaiccaa.Tg (bytesOf bytesOf_length bytesOf_lt bytesOf_inj Rd Rd.below)
open Go.Proofs.Ytghogoijjaiccaa.Ep (H32 zh zh_ok Has Has.refl Has.left Has.right Has.head Has.get Has.chunk Has.range h_len szH zH fitH allH one_app num32)
open Go.Proofs.Ytghogoijjaiccaa.Sa (Sta scs scs_len scs_one zs zs_ok scs_app staB staB_len SRt rdS rdS_ok sz_sta z_sta sz_rsta z_rsta fitS allS)
set_option linter.unusedVariables false
set_option linter.unusedSimpArgs false

section
variable {P : Program} {o : Oper} {a : Act} {ops : Array Oper} {rest : List Oper} {w : World} {Q : Exit → Act → World → Prop}
theorem run_op_callM (f : FuncId) (g : Operand) (xs : Array Operand) (ats : Array TypeId) (ho : o.op = .call { callee := .value g, args := xs, argTypes := ats }) (us : Array Value) (hg : a.eval g = .func (.func f) us #[]) (args : Array Value) (hx : xs.map a.eval = args) {fn : Func} (hf : P.funcs[f]? = some fn)
    (hb : fn.body.isNone = false) (hn : (fn.name == "runtime.NumGoroutine") = false) (w : World) : (execOp a.eval o).run P w = .ok (.enter f (us ++ args)) w := by
  obtain ⟨dst, op, ty, pos, after, guard⟩ := o
  simp only at ho
  subst ho
  unfold execOp
  simp only [resolve, Deferred.ofValue, hg, hx, invoke, callFunc, Sem.run_bind, Sem.run_pure, run_program, Result.andThen_ok, hf, hn, hb, Bool.false_eq_true, if_false, Array.append_empty]
theorem arm_callM (hgd : o.guard = none) (d : Tmp) (hd : o.dst = some d) (f : FuncId) (g : Operand) (xs : Array Operand) (ats : Array TypeId) (ho : o.op = .call { callee := .value g, args := xs, argTypes := ats }) (us : Array Value) (hg : a.eval g = .func (.func f) us #[]) (args : Array Value) (hx : xs.map a.eval = args) {fn : Func} (hf : P.funcs[f]? = some fn)
    (hb : fn.body.isNone = false) (hn : (fn.name == "runtime.NumGoroutine") = false) {R : Ending → World → Prop} (hc : Calls P f (us ++ args) w R) (h : ∀ e w', R e w' → ∃ v, e = .returned v ∧ wpList P ops Q rest (a.put (some d) v) w') : wpList P ops Q (o :: rest) a w := by
  refine wpList_plain hgd fun K hK => ?_
  unfold Oper.wp
  rw [run_op_callM f g xs ats ho us hg args hx hf hb hn w]
  exact hc.mono fun e w' hR => by
    obtain ⟨v, rfl, hk⟩ := h e w' hR
    rw [← hd] at hk
    exact hK _ _ hk
end
theorem only_two {b : Nat} {w w' : World} (h : Two b b w w') : Only b w w' := ⟨h.os, h.tape, h.output, h.size, fun k hk hne => h.block k hk hne hne⟩
theorem own_only {w w' : World} {base c : Nat} {q : Option Addr} {cap : Nat} {bs : List Nat} (h : Bt.Own w base q cap bs) (ho : Only c w w') (hne : blk q ≠ some c) : Bt.Own w' base q cap bs :=
  own_step h (Step.of_only c none ho) (fun k hk => by simp [blk] at hk) (fun k hk => by rw [← Option.some.inj hk]; exact hne)
theorem rd_apart {w : World} {R d base c : Nat} {s : RS} {q : Option Addr} {bs : List Nat} (h : RdAt w R d s) (ho : Bt.Own w base q c bs) : blk q ≠ some R := by
  obtain ⟨_, _, h⟩ := h.ex
  exact row_not_own h.row (by decide) ho
theorem lt_m {m : Msg} (k : m.Ok) {i : Nat} (h : i < 497) : i < (mcs m).length := by rw [mcs_len k]; exact h
theorem set_ver {m : Msg} (k : m.Ok) (v : Nat) : (mcs m).set 1 (.int .u32 (v : Int)) = mcs { m with ver := v } := by rw [Ep.set_lay (lt_m k (by decide)), lay_ver]
theorem set_pl {m : Msg} (k : m.Ok) (p : Int) : (mcs m).set 365 (.int .i64 p) = mcs { m with pl := p } := by rw [Ep.set_lay (lt_m k (by decide)), lay_pl k.st]
theorem sz_u32 : (Try.prog.info? 22).map (·.size) = some 1 := by kernel_rfl
theorem rdK_none {k : Nat} (h : ¬ (1 ≤ k ∧ k ≤ 4)) (b : List Nat) : rdK k b = (zm, 2) := by
  unfold rdK
  rw [if_neg (by omega), if_neg (by omega), if_neg (by omega), if_neg (by omega)]
theorem rdH_e (b : List Nat) : (rdH b).2 = endR (q4 b).2 := by
  unfold rdH
  split
  · rfl
  · rename_i h; exact (Decidable.not_not.1 h).symm
theorem rdH_m {b : List Nat} (h : (rdH b).2 = 0) : hello (q4 b).1 = (rdH b).1 := by
  rw [rdH_e] at h
  unfold rdH
  rw [if_neg (fun g => g h)]
theorem rdT_e (b : List Nat) : (rdT b).2 = (rdS b).2 := by
  unfold rdT
  generalize rdS b = r
  split
  · rfl
  · rename_i h; exact (Decidable.not_not.1 h).symm
theorem rdT_m {b : List Nat} (h : (rdT b).2 = 0) : tip (rdS b).1 = (rdT b).1 := by
  rw [rdT_e] at h
  unfold rdT
  generalize rdS b = r at h ⊢
  rw [if_neg (fun g => g h)]
theorem rdV_e (b : List Nat) : (rdV b).2 = endR (b, 0) := by
  unfold rdV endR
  by_cases h : b = []
  · rw [if_pos h, if_neg (fun g => g rfl), if_pos h]
  · rw [if_neg h, if_neg (fun g => g rfl), if_neg h]
theorem rdV_m {b : List Nat} (h : (rdV b).2 = 0) : leave = (rdV b).1 := by
  unfold rdV at h ⊢
  split
  · rfl
  · rename_i g; rw [if_neg g] at h; cases h
/-- The path behind so many digests. -/
def pK (b : List Nat) : Nat → List (List Nat)
  | 0 => z4
  | k + 1 => (pK b k).set k (hh b k)
theorem pK_all (b : List Nat) : pK b 4 = hL b := rfl
theorem pK_p4 {b : List Nat} (h : AllLt 256 b) : ∀ k, k ≤ 4 → P4 (pK b k)
  | 0, _ => z4_p4
  | k + 1, hk => by
    have ih := pK_p4 h k (by omega)
    exact ⟨all_set ih.ok (hh_ok h k) k, by show ((pK b k).set k _).length = 4; rw [List.length_set]; exact ih.len⟩
theorem kh_left (b : List Nat) : ∀ k, (kh b k).1.length ≤ b.length
  | 0 => Nat.le_trans (text_left 255 (k1 b).2) (takeR_left 1 (b, 0))
  | k + 1 => Nat.le_trans (by show (hashR (kh b k)).2.1.length ≤ _; exact takeR_left 32 (kh b k)) (kh_left b k)
theorem k2_len {b : List Nat} (h : AllLt 256 b) : (k2 b).1.length ≤ 255 := by
  have hn := num_lt' (k := 1) (s := (k1 b).2) (left_lt (s := (b, 0)) (k := 1) h)
  unfold k2 textR
  split
  · exact Nat.zero_le _
  · exact Nat.le_trans (takeR_len _ _) (by omega)
theorem rdW_1 {b : List Nat} (h : shE b ≠ 0) : rdW b = (zm, shE b) := if_pos h
theorem rdW_2 {b : List Nat} (h : shE b = 0) (g : (rdA (k2 b).1).2 ≠ 0) : rdW b = (zm, (rdA (k2 b).1).2) := by
  unfold rdW
  rw [if_neg (fun q => q h), if_pos g]
theorem rdW_3 {b : List Nat} (h : shE b = 0) (g : (rdA (k2 b).1).2 = 0) (j : 15 < (k1 b).1) : rdW b = (zm, 1) := by
  unfold rdW
  rw [if_neg (fun q => q h), if_neg (fun q => q g), if_pos j]
theorem rdW_4 {b : List Nat} (h : shE b = 0) (g : (rdA (k2 b).1).2 = 0) (j : ¬ 15 < (k1 b).1) : rdW b = (shown (k1 b).1 (rdA (k2 b).1).1 (hL b), 0) := by
  unfold rdW
  rw [if_neg (fun q => q h), if_neg (fun q => q g), if_neg j]
/-- What a reader of a kind leaves: M is the message. -/
structure RMPost (w : World) (M k : Nat) (b : List Nat) (e : Ending) (w' : World) : Prop where
  ret : e = .returned (.int .i64 ((rdK k b).2 : Int))
  ex : ∃ n : Msg, Row w' M 42 (mcs n) ∧ n.Ok ∧ ((rdK k b).2 = 0 → n = (rdK k b).1)
  only : Only M w w'
set_option maxHeartbeats 4000000 in
set_option maxRecDepth 100000 in
theorem read1_any (b : List Nat) (p : Option Addr) (cap M : Nat) (w : World) (hM : Row w M 42 (mcs (ofK 1))) (hp : Rd w p b) (hn : p = none → b.length = 0 ∧ cap = 0) (hl : b.length ≤ 1000) (hlt : AllLt 256 b) :
    Calls Try.prog 47 #[.pointer (some ⟨M, 0, none⟩), .slice p b.length cap] w (RMPost w M 1 b) := by
  have CN := Lib.hid (rNew_any b p cap w hp hn (by omega) hlt)
  have HV := Lib.hid (q4_lt hlt)
  have CM : Hid (∀ R d w0, RdAt w0 R d (b, 0) → Calls Try.prog 70 #[.pointer (some ⟨R, 0, none⟩)] w0 (RdPost w0 R d (.int .u32 ((q4 b).1 : Int)) (q4 b).2)) := Lib.hid fun R d w0 h => rNum_any R d (b, 0) w0 h (by show b.length ≤ _; omega)
  have CE : Hid (∀ R d w0, RdAt w0 R d (q4 b).2 → Calls Try.prog 71 #[.pointer (some ⟨R, 0, none⟩)] w0 fun e w' => e = .returned (.int .i64 ((rdK 1 b).2 : Int)) ∧ w0 = w') := Lib.hid fun R d w0 h => by rw [rdK1, rdH_e]; exact rEnd_any R d (q4 b).2 w0 h
  have HR : Hid ((rdK 1 b).2 = 0 → hello (q4 b).1 = (rdK 1 b).1) := Lib.hid (fun h => by rw [rdK1] at h ⊢; exact rdH_m h)
  have HOK := Lib.hid (hello_ok HV.out)
  have HSET : Hid ((mcs (ofK 1)).set 1 (.int .u32 ((q4 b).1 : Int)) = mcs (hello (q4 b).1)) := Lib.hid (set_ver (ofK_ok (n := 1) (by decide)) _)
  have HLT := Lib.hid (lt_m (ofK_ok (n := 1) (by decide)) (i := 1) (by decide))
  obtain ⟨v, hv⟩ : ∃ x, x = (q4 b).1 := ⟨_, rfl⟩
  obtain ⟨s1, hs1⟩ : ∃ x, x = (q4 b).2 := ⟨_, rfl⟩
  obtain ⟨ee, hee⟩ : ∃ x, x = (rdK 1 b).2 := ⟨_, rfl⟩
  rw [← hv] at CM HR HOK HSET HV
  rw [← hs1] at CM CE
  rw [← hee] at CE HR
  have HEE := Lib.hid hee
  clear hv hs1 hee hp hn hl hlt
  go_enter Try.func47, Try.ntmps47
  have lM := hM.lt; have hb0 : Below w.heap.size w w := Below.refl _ _
  have tw1 : Two M M w w := Two.of_below M M hb0
  clear hb0
  go_wp2_with fail
  refine (CN.out).mono ?_
  rintro e y2 ⟨⟨R, d, rfl, hA, gR, gd⟩, hB⟩
  have M_3 : Row y2 M 42 (mcs (ofK 1)) := hM.old hB
  have tw_3 : Two M M w y2 := two_step tw1 hB
  clear hM tw1 hB
  have geR : R = M ∨ R = M ∨ w.heap.size ≤ R := Or.inr (Or.inr gR)
  have nRM : R ≠ M := by omega
  have ndM : d ≠ M := by omega
  have nMR : M ≠ R := by omega
  go_wp2_with fail
  refine (CM.out R d _ hA).mono ?_
  rintro e y4 ⟨rfl, hA, hO⟩
  have M_5 : Row y4 M 42 (mcs (ofK 1)) := M_3.only hO nMR
  have R_5 : RdAt y4 R d s1 := hA
  have tw_5 : Two M M w y4 := two_only tw_3 hO (geR)
  clear M_3 hA tw_3 hO
  go_wp2_with (first
    | ((with_reducible refine arm_storeV (o := ⟨none, _, _, _, _, _⟩) rfl _ _ _ rfl M 1 rfl (.int .u32 (v : Int)) rfl (one_i _ _) sz_u32 _ _ (M_5) (HLT.out) ?_); intro y9 hy9 oy9 sy9; try simp only [Act.put, List.setIfInBounds_toArray, List.set_cons_zero, List.set_cons_succ]))
  try clear sy9
  have M_6 : Row y9 M 42 (mcs (hello v)) := hy9.congr HSET.out
  have R_6 : RdAt y9 R d s1 := R_5.other oy9 nRM ndM
  have tw_6 : Two M M w y9 := two_only tw_5 oy9 ((Or.inl rfl))
  clear M_5 R_5 tw_5 oy9
  clear hy9
  refine (CE.out R d _ R_6).mono ?_
  rintro e z7 ⟨rfl, rfl⟩
  go_wp2_with fail
  go_ret
  exact ⟨by rw [← HEE.out]; rfl, ⟨hello v, M_6, HOK.out, fun h => HR.out (by rw [HEE.out]; exact h)⟩, only_two tw_6⟩
set_option maxHeartbeats 4000000 in
set_option maxRecDepth 100000 in
theorem read2_any (b : List Nat) (p : Option Addr) (cap M : Nat) (w : World) (hM : Row w M 42 (mcs (ofK 2))) (hp : Rd w p b) (hn : p = none → b.length = 0 ∧ cap = 0) (hl : b.length ≤ 1000) (hlt : AllLt 256 b) :
    Calls Try.prog 48 #[.pointer (some ⟨M, 0, none⟩), .slice p b.length cap] w (RMPost w M 2 b) := by
  have CS : Hid (Calls Try.prog 72 #[.slice p b.length cap] w fun e w' => e = .returned (.tuple #[.agg (scs (rdS b).1).toArray, .int .i64 ((rdK 2 b).2 : Int)]) ∧ Below w.heap.size w w') := Lib.hid ((Sa.sread_any b p cap w hp hn (by omega) hlt).mono fun e w' h => ⟨by rw [rdK2, rdT_e]; exact h.ret, h.bel⟩)
  have KS := Lib.hid (rdS_ok hlt)
  have HR : Hid ((rdK 2 b).2 = 0 → tip (rdS b).1 = (rdK 2 b).1) := Lib.hid (fun h => by rw [rdK2] at h ⊢; exact rdT_m h)
  obtain ⟨s, hs⟩ : ∃ x, x = (rdS b).1 := ⟨_, rfl⟩
  obtain ⟨ee, hee⟩ : ∃ x, x = (rdK 2 b).2 := ⟨_, rfl⟩
  rw [← hs] at CS HR KS
  rw [← hee] at CS HR
  have HEE := Lib.hid hee
  have HOK := Lib.hid (tip_ok KS.out)
  have HSET : Hid (lay (mcs (ofK 2)) 2 (scs s) = mcs (tip s)) := Lib.hid (lay_st (ofK_ok (n := 2) (by decide)).st KS.out)
  have HFT : Hid (2 + (scs s).length ≤ (mcs (ofK 2)).length) := Lib.hid (by rw [scs_len KS.out, mcs_len (ofK_ok (n := 2) (by decide))]; omega)
  have SS := Lib.hid (sz_sta KS.out)
  clear hs hee hp hn hl hlt
  go_enter Try.func48, Try.ntmps48
  have lM := hM.lt; have hb0 : Below w.heap.size w w := Below.refl _ _
  have tw1 : Two M M w w := Two.of_below M M hb0
  clear hb0
  go_wp2_with fail
  refine (CS.out).mono ?_
  rintro e y2 ⟨rfl, hB⟩
  have M_3 : Row y2 M 42 (mcs (ofK 2)) := hM.old hB
  have tw_3 : Two M M w y2 := two_step tw1 hB
  clear hM tw1 hB
  go_wp2_with (first
    | ((with_reducible refine at_slot 5 ?_); (refine arm_alloc (o := ⟨some 5, _, _, _, _, _⟩) rfl _ rfl (scs zs) z_sta ?_); intro S v4a Se hSa nS; try simp only [Act.put, List.setIfInBounds_toArray, List.set_cons_zero, List.set_cons_succ])
    | ((with_reducible refine arm_store (o := ⟨none, _, _, _, _, _⟩) rfl _ _ _ rfl S 0 rfl (scs s) rfl _ _ hSa (fitS KS.out) (scs_one _) SS.out ?_); intro v4 hSb oS sS; try simp only [Act.put, List.setIfInBounds_toArray, List.set_cons_zero, List.set_cons_succ]))
  have lS : y2.heap.size ≤ S := by have := Se.out; omega
  have bS : Below y2.heap.size y2 v4 := below_only nS.below oS lS nS.below.size
  have rrS : Row v4 S 35 (scs s) := hSb.congr (allS KS.out)
  have geS : w.heap.size ≤ S := Nat.le_trans tw_3.size lS
  have neMS : M ≠ S := by have := M_3.lt; omega
  clear hSa hSb nS oS sS Se lS
  have M_5 : Row v4 M 42 (mcs (ofK 2)) := M_3.old bS
  have tw_5 : Two M M w v4 := two_step tw_3 bS
  clear M_3 tw_3 bS
  refine upon_of (v := .agg (scs s).toArray) (w := v4) ?_ ?_
  · exact run_op_load _ _ rfl S (0) rfl (scs s) ((Has.refl _).range rrS) (SS.out)
  try simp only [Act.put, List.setIfInBounds_toArray, List.set_cons_zero, List.set_cons_succ]
  go_wp2_with (first
    | ((with_reducible refine arm_store (o := ⟨none, _, _, _, _, _⟩) rfl _ _ _ rfl M 2 rfl (scs s) rfl _ _ (M_5) HFT.out (scs_one _) SS.out ?_); intro y9 hy9 oy9 sy9; try simp only [Act.put, List.setIfInBounds_toArray, List.set_cons_zero, List.set_cons_succ]))
  try clear sy9
  have neSM := neMS.symm
  have M_6 : Row y9 M 42 (mcs (tip s)) := hy9.congr HSET.out
  have S_6 : Row y9 S 35 (scs s) := rrS.only oy9 neSM
  have tw_6 : Two M M w y9 := two_only tw_5 oy9 ((Or.inl rfl))
  clear M_5 rrS tw_5 oy9
  clear hy9
  go_ret
  exact ⟨by rw [← HEE.out]; rfl, ⟨tip s, M_6, HOK.out, fun h => HR.out (by rw [HEE.out]; exact h)⟩, only_two tw_6⟩
set_option maxHeartbeats 4000000 in
set_option maxRecDepth 100000 in
theorem read3_any (b : List Nat) (p : Option Addr) (cap M : Nat) (w : World) (hM : Row w M 42 (mcs (ofK 3))) (hp : Rd w p b) (hn : p = none → b.length = 0 ∧ cap = 0) (hl : b.length ≤ 1000) (hlt : AllLt 256 b) :
    Calls Try.prog 49 #[.pointer (some ⟨M, 0, none⟩), .slice p b.length cap] w (RMPost w M 3 b) := by
  have CN := Lib.hid (rNew_any b p cap w hp hn (by omega) hlt)
  have CE : Hid (∀ R d w0, RdAt w0 R d (b, 0) → Calls Try.prog 71 #[.pointer (some ⟨R, 0, none⟩)] w0 fun e w' => e = .returned (.int .i64 ((rdK 3 b).2 : Int)) ∧ w0 = w') := Lib.hid fun R d w0 h => by rw [rdK3, rdV_e]; exact rEnd_any R d (b, 0) w0 h
  have HR : Hid ((rdK 3 b).2 = 0 → leave = (rdK 3 b).1) := Lib.hid (fun h => by rw [rdK3] at h ⊢; exact rdV_m h)
  obtain ⟨ee, hee⟩ : ∃ x, x = (rdK 3 b).2 := ⟨_, rfl⟩
  rw [← hee] at CE HR
  have HEE := Lib.hid hee
  clear hee hp hn hl hlt
  go_enter Try.func49, Try.ntmps49
  have lM := hM.lt; have hb0 : Below w.heap.size w w := Below.refl _ _
  have tw1 : Two M M w w := Two.of_below M M hb0
  clear hb0
  go_wp2_with fail
  refine (CN.out).mono ?_
  rintro e y2 ⟨⟨R, d, rfl, hA, gR, gd⟩, hB⟩
  have M_3 : Row y2 M 42 (mcs (ofK 3)) := hM.old hB
  have tw_3 : Two M M w y2 := two_step tw1 hB
  clear hM tw1 hB
  have geR : R = M ∨ R = M ∨ w.heap.size ≤ R := Or.inr (Or.inr gR)
  have nRM : R ≠ M := by omega
  have ndM : d ≠ M := by omega
  have nMR : M ≠ R := by omega
  go_wp2_with fail
  refine (CE.out R d _ hA).mono ?_
  rintro e z4 ⟨rfl, rfl⟩
  go_wp2_with fail
  go_ret
  exact ⟨by rw [← HEE.out]; rfl, ⟨leave, M_3, leave_ok, fun h => HR.out (by rw [HEE.out]; exact h)⟩, only_two tw_3⟩
set_option maxHeartbeats 4000000 in
set_option maxRecDepth 100000 in
theorem read5_any (q : Nat) (hq : ¬ (1 ≤ q ∧ q ≤ 4)) (hq2 : q < 256) (b : List Nat) (p : Option Addr) (cap M : Nat) (w : World) (hM : Row w M 42 (mcs (ofK q))) (hp : Rd w p b) (hn : p = none → b.length = 0 ∧ cap = 0) (hl : b.length ≤ 1000) (hlt : AllLt 256 b) :
    Calls Try.prog 51 #[.pointer (some ⟨M, 0, none⟩), .slice p b.length cap] w (RMPost w M q b) := by
  have HE := Lib.hid (rdK_none hq b)
  have HOK := Lib.hid (ofK_ok hq2)
  clear hp hn hl hlt hq hq2
  go_enter Try.func51, Try.ntmps51
  go_wp2_with fail
  go_ret
  exact ⟨by rw [HE.out]; rfl, ⟨ofK q, hM, HOK.out, fun h => by rw [HE.out] at h; cases h⟩, Only.refl _ _⟩
structure ShRel (w : World) (M R d : Nat) (v : Nat) (q : Option Addr) (c : Nat) (tb b : List Nat) (i : Value) (wr : World) : Prop where
  ex : ∃ k : Nat, k ≤ 4 ∧ i = .int .i64 (k : Int) ∧ Row wr M 42 (mcs (shown v za (pK b k))) ∧ RdAt wr R d (kh b k)
  own : Bt.Own wr 0 q c tb
  two : Two M M w wr
set_option maxHeartbeats 4000000 in
set_option maxRecDepth 100000 in
theorem read4_any (b : List Nat) (p : Option Addr) (cap M : Nat) (w : World) (hM : Row w M 42 (mcs (ofK 4))) (hp : Rd w p b) (hn : p = none → b.length = 0 ∧ cap = 0) (hl : b.length ≤ 1000) (hlt : AllLt 256 b) :
    Calls Try.prog 50 #[.pointer (some ⟨M, 0, none⟩), .slice p b.length cap] w (RMPost w M 4 b) := by
  have CN := Lib.hid (rNew_any b p cap w hp hn (by omega) hlt)
  have HV := Lib.hid (k1_lt hlt)
  have CB : Hid (∀ R d w0, RdAt w0 R d (b, 0) → Calls Try.prog 73 #[.pointer (some ⟨R, 0, none⟩)] w0 (RdPost w0 R d (.int .u8 ((k1 b).1 : Int)) (k1 b).2)) := Lib.hid fun R d w0 h => rByte_any R d (b, 0) w0 h (by show b.length ≤ _; omega)
  have CT : Hid (∀ R d w0, RdAt w0 R d (k1 b).2 → Calls Try.prog 74 #[.pointer (some ⟨R, 0, none⟩), .int .i64 255] w0 (TextPost2 w0 R d (k2 b).1 (kh b 0))) := Lib.hid fun R d w0 h => rText2_any 255 R d (k1 b).2 w0 h (Nat.le_trans (takeR_left 1 (b, 0)) (by show b.length ≤ _; omega))
  have CH : Hid (∀ k R d w0, RdAt w0 R d (kh b k) → Calls Try.prog 75 #[.pointer (some ⟨R, 0, none⟩)] w0 (RdPost w0 R d (.agg (u8s (hh b k)).toArray) (kh b (k + 1)))) := Lib.hid fun k R d w0 h => rHash_any R d (kh b k) w0 h (Nat.le_trans (kh_left b k) (by omega))
  have CE : Hid (∀ R d w0, RdAt w0 R d (kh b 4) → Calls Try.prog 71 #[.pointer (some ⟨R, 0, none⟩)] w0 fun e w' => e = .returned (.int .i64 (shE b : Int)) ∧ w0 = w') := Lib.hid fun R d w0 h => rEnd_any R d (kh b 4) w0 h
  have HTL := Lib.hid (k2_len hlt)
  have HTT := Lib.hid (k2_lt hlt)
  have CA : Hid (∀ q c w0, Bt.Own w0 0 q c (k2 b).1 → Calls Try.prog 76 #[.slice q (k2 b).1.length c] w0 fun e w' => e = .returned (.tuple #[.agg (acs (rdA (k2 b).1).1).toArray, .int .i64 ((rdA (k2 b).1).2 : Int)]) ∧ Below w0.heap.size w0 w') := Lib.hid fun q c w0 h => (aread_any (k2 b).1 q c w0 h.rd (own_none h) (by have := HTL.out; omega) HTT.out).mono fun e w' h => ⟨h.ret, h.bel⟩
  have HAO := Lib.hid (rdA_ok HTT.out)
  have HK := Lib.hid (fun k (hk : k ≤ 4) => pK_p4 hlt k hk)
  have HHK := Lib.hid (fun k => hh_ok hlt k)
  have HX1 := Lib.hid (@rdW_1 b); have HX2 := Lib.hid (@rdW_2 b); have HX3 := Lib.hid (@rdW_3 b); have HX4 := Lib.hid (@rdW_4 b)
  have HPA := Lib.hid (pK_all b)
  have HOKK : Hid (∀ k, k ≤ 4 → (shown (k1 b).1 za (pK b k)).Ok) := Lib.hid fun k hk => shown_ok (by have := HV.out; omega) za_ok (HK.out k hk)
  have HSET : Hid ((mcs (ofK 4)).set 365 (.int .i64 ((k1 b).1 : Int)) = mcs (shown (k1 b).1 za z4)) := Lib.hid (set_pl (ofK_ok (n := 4) (by decide)) _)
  have HLT := Lib.hid (lt_m (ofK_ok (n := 4) (by decide)) (i := 365) (by decide))
  obtain ⟨v, hv⟩ : ∃ x, x = (k1 b).1 := ⟨_, rfl⟩
  obtain ⟨s1, hs1⟩ : ∃ x, x = (k1 b).2 := ⟨_, rfl⟩
  obtain ⟨tb, htb⟩ : ∃ x, x = (k2 b).1 := ⟨_, rfl⟩
  obtain ⟨ee, hee⟩ : ∃ x, x = shE b := ⟨_, rfl⟩
  rw [← hv] at CB HX3 HX4 HOKK HSET HV
  rw [← hs1] at CB CT
  rw [← htb] at CT CA HTL HTT HX2 HX3 HX4 HAO
  rw [← hee] at CE HX1 HX2 HX3 HX4
  have HWR : Hid (IntKind.i64.wrap (v : Int) = (v : Int)) := Lib.hid (by have := HV.out; rw [IntKind.wrap_i64]; omega)
  clear hv hs1 htb hee hp hn hl hlt
  go_enter Try.func50, Try.ntmps50
  have lM := hM.lt; have hb0 : Below w.heap.size w w := Below.refl _ _
  have tw1 : Two M M w w := Two.of_below M M hb0
  clear hb0
  go_wp2_with fail
  refine (CN.out).mono ?_
  rintro e y2 ⟨⟨R, d, rfl, hA, gR, gd⟩, hB⟩
  have M_3 : Row y2 M 42 (mcs (ofK 4)) := hM.old hB
  have tw_3 : Two M M w y2 := two_step tw1 hB
  clear hM tw1 hB
  have geR : R = M ∨ R = M ∨ w.heap.size ≤ R := Or.inr (Or.inr gR)
  have nRM : R ≠ M := by omega
  have ndM : d ≠ M := by omega
  have nMR : M ≠ R := by omega
  go_wp2_with fail
  refine (CB.out R d _ hA).mono ?_
  rintro e y4 ⟨rfl, hA, hO⟩
  have M_5 : Row y4 M 42 (mcs (ofK 4)) := M_3.only hO nMR
  have R_5 : RdAt y4 R d s1 := hA
  have tw_5 : Two M M w y4 := two_only tw_3 hO (geR)
  clear M_3 hA tw_3 hO
  go_wp2_with (first
    | ((with_reducible refine at_slot 16 ?_); (refine arm_want (.int .i64 (v : Int)) 16 rfl (by kernel_rfl) (run_op_conv17 _ _ _ rfl .u8 .i64 .u8 (by kernel_rfl) (by kernel_rfl) (v : Int) rfl (v : Int) HWR.out _) ?_); try simp only [Act.put, List.setIfInBounds_toArray, List.set_cons_zero, List.set_cons_succ])
    | ((with_reducible refine arm_storeV (o := ⟨none, _, _, _, _, _⟩) rfl _ _ _ rfl M 365 rfl (.int .i64 (v : Int)) rfl (one_i _ _) sz_int _ _ (M_5) (HLT.out) ?_); intro y9 hy9 oy9 sy9; try simp only [Act.put, List.setIfInBounds_toArray, List.set_cons_zero, List.set_cons_succ]))
  try clear sy9
  have M_6 : Row y9 M 42 (mcs (shown v za z4)) := hy9.congr HSET.out
  have R_6 : RdAt y9 R d s1 := R_5.other oy9 nRM ndM
  have tw_6 : Two M M w y9 := two_only tw_5 oy9 ((Or.inl rfl))
  clear M_5 R_5 tw_5 oy9
  clear hy9
  refine (CT.out R d _ R_6).mono ?_
  rintro e y7 ⟨⟨q, c, rfl, hT⟩, hA, hO⟩
  have M_8 : Row y7 M 42 (mcs (shown v za z4)) := M_6.only hO nMR
  have R_8 : RdAt y7 R d (kh b 0) := hA
  have tw_8 : Two M M w y7 := two_only tw_6 hO (geR)
  clear M_6 R_6 tw_6 hO
  have nTM : blk q ≠ some M := row_not_own M_8 (by decide) hT
  have nTR : blk q ≠ some R := rd_apart R_8 hT
  go_wp2_with fail
  have h0 : ShRel w M R d v q c tb b (.int .i64 0) y7 := ⟨⟨0, by omega, rfl, M_8, R_8⟩, hT, tw_8⟩
  clear M_8 R_8 hT tw_8
  go_loopw [21] (fun i wr => ShRel w M R d v q c tb b i wr) (fun i _ => 4 - (intOf i).toNat)
  case atStart => exact h0
  case round =>
    clear h0
    obtain ⟨⟨k, hk, rfl, hM, hA⟩, hT, two⟩ := hrel
    by_cases hlt : k < 4
    · have ik : (k : Int) < 4 := by omega
      have HLT2 := Lib.hid hlt
      have KP := Lib.hid (HK.out k (by omega))
      have HD := Lib.hid (HHK.out k)
      have HOK := Lib.hid (HOKK.out k (by omega))
      have CH2 := Lib.hid (CH.out k)
      have HLY : Hid (lay (mcs (shown v za (pK b k))) (369 + k * 32) (u8s (hh b k)) = mcs (shown v za (pK b (k + 1)))) := Lib.hid (by rw [Nat.mul_comm]; exact lay_dig HOK.out.st KP.out HD.out hlt)
      have HFT : Hid (369 + k * 32 + (u8s (hh b k)).length ≤ (mcs (shown v za (pK b k))).length) := Lib.hid (by rw [h_len HD.out, mcs_len HOK.out]; omega)
      obtain ⟨g, hg⟩ : ∃ g, g = hh b k := ⟨_, rfl⟩
      rw [← hg] at HD CH2 HLY HFT
      clear hg
      go_wp2_with fail
      refine wp_region_held (S := fun w' => True) (by kernel_rfl) ?_
      change wpAnyH _ _ _ _ _ _ _ _ wr.drew
      have hd101 : Below wr.heap.size wr wr.drew := (Below.refl _ _).drew
      have M_102 : Row wr.drew M 42 (mcs (shown v za (pK b k))) := hM.old hd101
      have R_102 : RdAt wr.drew R d (kh b k) := hA.old hd101
      have T_102 : Bt.Own wr.drew 0 q c tb := hT.below hd101
      have tw_102 : Two M M w wr.drew := two_step two hd101
      clear hM hA hT two hd101
      generalize wr.drew = yz101 at M_102 R_102 T_102 tw_102 ⊢
      refine h_take 0 (.pointer (some ⟨M, 0, none⟩)) rfl 24 rfl (by kernel_rfl) (by kernel_rfl) (by kernel_rfl) (by kernel_rfl) (fun _ _ _ h => h) (fun w' _ => by kernel_rfl) trivial ?_
      simp only [Act.put, List.setIfInBounds_toArray, List.set_cons_zero, List.set_cons_succ]
      refine h_take 1 (.int .i64 (k : Int)) rfl 25 rfl (by kernel_rfl) (by kernel_rfl) (by kernel_rfl) (by kernel_rfl) (fun _ _ _ h => h) (fun w' _ => by kernel_rfl) trivial ?_
      simp only [Act.put, List.setIfInBounds_toArray, List.set_cons_zero, List.set_cons_succ]
      refine h_take 2 (.pointer (some ⟨R, 0, none⟩)) rfl 26 rfl (by kernel_rfl) (by kernel_rfl) (by kernel_rfl) (by kernel_rfl) (fun _ _ _ h => h) (fun w' _ => by kernel_rfl) trivial ?_
      simp only [Act.put, List.setIfInBounds_toArray, List.set_cons_zero, List.set_cons_succ]
      refine h_take 4 (.pointer (some ⟨M, 0, none⟩)) rfl 28 rfl (by kernel_rfl) (by kernel_rfl) (by kernel_rfl) (by kernel_rfl) (fun _ _ _ h => h) (fun w' _ => by kernel_rfl) trivial ?_
      simp only [Act.put, List.setIfInBounds_toArray, List.set_cons_zero, List.set_cons_succ]
      refine h_take 5 (.pointer (some ⟨M, 369, none⟩)) rfl 29 rfl (by kernel_rfl) (by kernel_rfl) (by kernel_rfl) (by kernel_rfl) (fun _ _ _ h => h) (fun w' _ => by kernel_rfl) trivial ?_
      simp only [Act.put, List.setIfInBounds_toArray, List.set_cons_zero, List.set_cons_succ]
      refine h_one (i := 3) (by kernel_rfl) (o_call rfl 27 rfl (by kernel_rfl) (run_op_call 75 _ _ rfl #[.pointer (some ⟨R, 0, none⟩)] (by simp only [List.map_toArray, List.map_cons, List.map_nil]; rfl) Try.func75 (by kernel_rfl) (by kernel_rfl) _) (CH2.out R d _ R_102) ?_)
      rintro e y103 ⟨rfl, hA, hO⟩
      have M_104 : Row y103 M 42 (mcs (shown v za (pK b k))) := M_102.only hO nMR
      have R_104 : RdAt y103 R d (kh b (k + 1)) := hA
      have T_104 : Bt.Own y103 0 q c tb := own_only T_102 hO nTR
      have tw_104 : Two M M w y103 := two_only tw_102 hO (geR)
      clear M_102 R_102 T_102 tw_102 hO
      refine ⟨_, rfl, trivial, ?_⟩
      simp only [Act.put, List.setIfInBounds_toArray, List.set_cons_zero, List.set_cons_succ]
      refine h_take 6 (.pointer (some ⟨M, 369 + k * 32, none⟩)) rfl 30 rfl (by kernel_rfl) (by kernel_rfl) (by kernel_rfl) (by kernel_rfl) (fun _ _ _ h => h) (fun w' _ => run_op_arr _ _ _ rfl 4 24 32 (by kernel_rfl) (by kernel_rfl) M 369 rfl .i64 _ rfl k rfl HLT2.out (369 + k * 32) rfl w') trivial ?_
      simp only [Act.put, List.setIfInBounds_toArray, List.set_cons_zero, List.set_cons_succ]
      have geM : M = M ∨ M = M ∨ w.heap.size ≤ M := Or.inl rfl
      refine h_one (i := 7) (by kernel_rfl) (o_skip rfl rfl (by kernel_rfl) (run_op_store _ _ _ rfl M (369 + k * 32) rfl (u8s g) rfl _ _ M_104 HFT.out (u8s_one _) (szH HD.out)) ?_)
      have rq := row_setRow M_104 (lay (mcs (shown v za (pK b k))) (369 + k * 32) (u8s g))
      have oq := Only.setRow M y103 (lay (mcs (shown v za (pK b k))) (369 + k * 32) (u8s g)).toArray
      generalize y103.setRow M (lay (mcs (shown v za (pK b k))) (369 + k * 32) (u8s g)).toArray = y105 at rq oq ⊢
      have M_106 : Row y105 M 42 (mcs (shown v za (pK b (k + 1)))) := rq.congr HLY.out
      have R_106 : RdAt y105 R d (kh b (k + 1)) := R_104.other oq nRM ndM
      have T_106 : Bt.Own y105 0 q c tb := own_only T_104 oq nTM
      have tw_106 : Two M M w y105 := two_only tw_104 oq (geM)
      clear M_104 R_104 T_104 tw_104 oq
      clear rq
      refine ⟨trivial, ?_⟩
      refine wpAnyH_done (by kernel_rfl) ?_ _
      go_wp2_with fail
      try simp only [Act.put]
      go_roundw
      case rel => exact ⟨⟨k + 1, by omega, by go_num, M_106, R_106⟩, T_106, tw_106⟩
      case measure => simp [intOf]; omega
    · obtain rfl : k = 4 := by omega
      rw [HPA.out] at hM
      have HOK := Lib.hid (HOKK.out 4 (by omega))
      have K4 := Lib.hid (HK.out 4 (by omega))
      rw [HPA.out] at HOK K4
      clear HOKK HK HHK CH CB CT CN HPA hlt hk
      go_wp2_with fail
      refine (CE.out R d _ hA).mono ?_
      rintro e z201 ⟨rfl, rfl⟩
      by_cases he : ee = 0
      · have hz : ((ee : Int) != 0) = false := by rw [he]; rfl
        have HX2b := Lib.hid (HX2.out he); have HX3b := Lib.hid (HX3.out he); have HX4b := Lib.hid (HX4.out he)
        obtain ⟨a, ha⟩ : ∃ x, x = (rdA tb).1 := ⟨_, rfl⟩
        obtain ⟨ea, hea⟩ : ∃ x, x = (rdA tb).2 := ⟨_, rfl⟩
        rw [← ha, ← hea] at CA
        rw [← hea] at HX2b HX3b
        rw [← ha, ← hea] at HX4b
        rw [← ha] at HAO
        obtain ⟨n, hn⟩ : ∃ x, x = tb.length := ⟨_, rfl⟩
        rw [← hn] at CA ⊢
        clear HX1 HX2 HX3 HX4 he ha hea hn HTL
        go_wp2_with fail
        refine (CA.out q c _ hT).mono ?_
        rintro e y202 ⟨rfl, hB⟩
        have M_203 : Row y202 M 42 (mcs (shown v za (hL b))) := hM.old hB
        have R_203 : RdAt y202 R d (kh b 4) := hA.old hB
        have T_203 : Bt.Own y202 0 q c tb := hT.below hB
        have tw_203 : Two M M w y202 := two_step two hB
        clear hM hA hT two hB
        by_cases hea : ea = 0
        · have hz2 : ((ea : Int) != 0) = false := by rw [hea]; rfl
          have HX3c := Lib.hid (HX3b.out hea); have HX4c := Lib.hid (HX4b.out hea)
          clear HX2b HX3b HX4b hea
          have HFA : Hid (366 + [Value.string a.nm, Value.int .u64 (a.bal : Int), Value.int .u32 (a.non : Int)].length ≤ (mcs (shown v za (hL b))).length) := Lib.hid (by rw [mcs_len HOK.out]; show 366 + 3 ≤ _; omega)
          have HVO : Hid (OneCells [Value.string a.nm, Value.int .u64 (a.bal : Int), Value.int .u32 (a.non : Int)]) := Lib.hid (acs_one a)
          have HVZ : Hid (Sized Try.prog 38 [Value.string a.nm, Value.int .u64 (a.bal : Int), Value.int .u32 (a.non : Int)].length) := Lib.hid (sz_acc a)
          have HLA : Hid (lay (mcs (shown v za (hL b))) 366 [Value.string a.nm, Value.int .u64 (a.bal : Int), Value.int .u32 (a.non : Int)] = mcs (shown v a (hL b))) := Lib.hid (lay_acc HOK.out.st a)
          have HOA : Hid ((shown v a (hL b)).Ok) := Lib.hid (shown_ok (by have := HV.out; omega) HAO.out K4.out)
          have HCP : Hid ((mcs (shown v a (hL b)))[365]? = some (.int .i64 (v : Int))) := Lib.hid (m_pl HOA.out.st).get
          have C0 : Hid ((acs a)[0]? = some (.string a.nm)) := Lib.hid rfl
          have C1 : Hid ((acs a)[1]? = some (.int .u64 (a.bal : Int))) := Lib.hid rfl
          have C2 : Hid ((acs a)[2]? = some (.int .u32 (a.non : Int))) := Lib.hid rfl
          go_wp2_with (first
            | ((with_reducible refine at_slot 9 ?_); (refine arm_alloc (o := ⟨some 9, _, _, _, _, _⟩) rfl _ rfl (acs za) z_acc ?_); intro A v204a Ae hAa nA; try simp only [Act.put, List.setIfInBounds_toArray, List.set_cons_zero, List.set_cons_succ])
            | ((with_reducible refine arm_store (o := ⟨none, _, _, _, _, _⟩) rfl _ _ _ rfl A 0 rfl (acs a) rfl _ _ hAa (fitA a) (acs_one a) (sz_acc a) ?_); intro v204 hAb oA sA; try simp only [Act.put, List.setIfInBounds_toArray, List.set_cons_zero, List.set_cons_succ]; refine Pf.pause ?_; try simp only [Act.put, List.setIfInBounds_toArray, List.set_cons_zero, List.set_cons_succ]))
          have lA : y202.heap.size ≤ A := by have := Ae.out; omega
          have bA : Below y202.heap.size y202 v204 := below_only nA.below oA lA nA.below.size
          have rrA : Row v204 A 38 (acs a) := hAb.congr (allA a)
          have geA : w.heap.size ≤ A := Nat.le_trans tw_203.size lA
          have neMA : M ≠ A := by have := M_203.lt; omega
          clear hAa hAb nA oA sA Ae lA
          have M_205 : Row v204 M 42 (mcs (shown v za (hL b))) := M_203.old bA
          have R_205 : RdAt v204 R d (kh b 4) := R_203.old bA
          have T_205 : Bt.Own v204 0 q c tb := T_203.below bA
          have tw_205 : Two M M w v204 := two_step tw_203 bA
          clear M_203 R_203 T_203 tw_203 bA
          refine Pf.go_on ?_
          have neAM := neMA.symm
          have ca0 := rrA.cell C0.out; have ca1 := rrA.cell C1.out; have ca2 := rrA.cell C2.out
          go_wp2_with (first
            | ((with_reducible refine arm_store (o := ⟨none, _, _, _, _, _⟩) rfl _ _ _ rfl M 366 rfl ([Value.string a.nm, Value.int .u64 (a.bal : Int), Value.int .u32 (a.non : Int)]) rfl _ _ (M_205) HFA.out HVO.out HVZ.out ?_); intro y9 hy9 oy9 sy9; try simp only [Act.put, List.setIfInBounds_toArray, List.set_cons_zero, List.set_cons_succ]; refine Pf.pause ?_; try simp only [Act.put, List.setIfInBounds_toArray, List.set_cons_zero, List.set_cons_succ]))
          refine Pf.go_on ?_
          try clear sy9
          clear ca0 ca1 ca2
          have M_206 : Row y9 M 42 (mcs (shown v a (hL b))) := hy9.congr HLA.out
          have R_206 : RdAt y9 R d (kh b 4) := R_205.other oy9 nRM ndM
          have T_206 : Bt.Own y9 0 q c tb := own_only T_205 oy9 nTM
          have A_206 : Row y9 A 38 (acs a) := rrA.only oy9 neAM
          have tw_206 : Two M M w y9 := two_only tw_205 oy9 ((Or.inl rfl))
          clear M_205 R_205 T_205 rrA tw_205 oy9
          clear hy9
          have hcp := M_206.cell HCP.out
          go_wp2_with fail
          clear hcp
          by_cases hv : v < 16
          · have CTH : Hid (∀ w0, Calls Try.prog 34 #[.int .i64 (v : Int)] w0 fun e w' => e = .returned (.bool true) ∧ w0 = w') := Lib.hid fun w0 => (there17_any (v : Int) w0).mono fun e w' h => ⟨by rw [h.1, decide_eq_true (by omega)], h.2⟩
            have HE := Lib.hid (HX4c.out (by omega))
            clear hv
            refine (CTH.out _).mono ?_
            rintro e z207 ⟨rfl, rfl⟩
            go_wp2_with fail
            go_ret
            exact ⟨by rw [rdK4, HE.out]; rfl, ⟨shown v a (hL b), M_206, HOA.out, fun h => by rw [rdK4, HE.out]⟩, only_two tw_206⟩
          · have CTH : Hid (∀ w0, Calls Try.prog 34 #[.int .i64 (v : Int)] w0 fun e w' => e = .returned (.bool false) ∧ w0 = w') := Lib.hid fun w0 => (there17_any (v : Int) w0).mono fun e w' h => ⟨by rw [h.1, decide_eq_false (by omega)], h.2⟩
            have HE := Lib.hid (HX3c.out (by omega))
            clear hv
            refine (CTH.out _).mono ?_
            rintro e z207 ⟨rfl, rfl⟩
            go_wp2_with fail
            go_ret
            exact ⟨by rw [rdK4, HE.out]; rfl, ⟨shown v a (hL b), M_206, HOA.out, fun h => by rw [rdK4, HE.out] at h; cases h⟩, only_two tw_206⟩
        · have hz2 : ((ea : Int) != 0) = true := by simp; omega
          have HE := Lib.hid (HX2b.out hea)
          have HNE := Lib.hid hea
          clear HX2b HX3b HX4b hea
          obtain ⟨z, hzz⟩ : ∃ z : Int, z = (ea : Int) := ⟨_, rfl⟩
          rw [← hzz] at hz2 ⊢
          have HZ := Lib.hid hzz
          clear hzz
          go_wp2_with (first
            | ((with_reducible refine at_slot 9 ?_); (refine arm_alloc (o := ⟨some 9, _, _, _, _, _⟩) rfl _ rfl (acs za) z_acc ?_); intro A v204a Ae hAa nA; try simp only [Act.put, List.setIfInBounds_toArray, List.set_cons_zero, List.set_cons_succ])
            | ((with_reducible refine arm_store (o := ⟨none, _, _, _, _, _⟩) rfl _ _ _ rfl A 0 rfl (acs a) rfl _ _ hAa (fitA a) (acs_one a) (sz_acc a) ?_); intro v204 hAb oA sA; try simp only [Act.put, List.setIfInBounds_toArray, List.set_cons_zero, List.set_cons_succ]))
          have lA : y202.heap.size ≤ A := by have := Ae.out; omega
          have bA : Below y202.heap.size y202 v204 := below_only nA.below oA lA nA.below.size
          have rrA : Row v204 A 38 (acs a) := hAb.congr (allA a)
          have geA : w.heap.size ≤ A := Nat.le_trans tw_203.size lA
          have neMA : M ≠ A := by have := M_203.lt; omega
          clear hAa hAb nA oA sA Ae lA
          have M_205 : Row v204 M 42 (mcs (shown v za (hL b))) := M_203.old bA
          have R_205 : RdAt v204 R d (kh b 4) := R_203.old bA
          have T_205 : Bt.Own v204 0 q c tb := T_203.below bA
          have tw_205 : Two M M w v204 := two_step tw_203 bA
          clear M_203 R_203 T_203 tw_203 bA
          go_ret
          exact ⟨by rw [rdK4, HE.out, HZ.out]; rfl, ⟨_, M_205, HOK.out, fun h => by rw [rdK4, HE.out] at h; exact absurd h HNE.out⟩, only_two tw_205⟩
      · have hz : ((ee : Int) != 0) = true := by simp; omega
        have HE := Lib.hid (HX1.out he)
        have HNE := Lib.hid he
        clear HX1 HX2 HX3 HX4 he
        obtain ⟨z, hzz⟩ : ∃ z : Int, z = (ee : Int) := ⟨_, rfl⟩
        rw [← hzz] at hz ⊢
        have HZ := Lib.hid hzz
        clear hzz
        go_wp2_with fail
        go_ret
        exact ⟨by rw [rdK4, HE.out, HZ.out]; rfl, ⟨_, hM, HOK.out, fun h => by rw [rdK4, HE.out] at h; exact absurd h HNE.out⟩, only_two two⟩
end Go.Proofs.Ytghogoijjaiccaa.Ms
