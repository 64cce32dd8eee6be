/-
  The walk of layer 11's statement LinkTells, out of the contracts: it returns true, and changes nothing that was there. Over this seat's translation.
-/
import Derived.Test.YtphbpndjebfacaaDoorLnkAwake
import Derived.Test.YtphbpndjebfacaaDoorLnkOwn
import Derived.Test.YtphbpndjebfacaaDoorLnkRLine
import Derived.Test.YtphbpndjebfacaaDoorStaRRight
import Derived.Deep.DeepCutAuto
namespace Go.Proofs.YtphbpndjebfacaaDoor.Lk
open Go.ChangeShapes Go.WideShapes Go.ChangeAt Go.RowKit Go.Proofs.YtphbpndjebfacaaDoor.Mem Go.Proofs.YtphbpndjebfacaaDoor.Bt Go.Proofs.YtphbpndjebfacaaDoor.Rg Go.Proofs.YtphbpndjebfacaaDoor.Wn Go.Proofs.YtphbpndjebfacaaDoor.Sa Go.Proofs.YtphbpndjebfacaaDoor.Sha Go.Proofs.YtphbpndjebfacaaDoor.Gr Go.Proofs.YtphbpndjebfacaaDoor.Sl
open Go.Proofs.YtphbpndjebfacaaDoor.Ep (H32 Dat Blk zh zh_ok num32 zd zd_ok Has h_len one_app one_num szH zH fitH allH)
set_option linter.unusedVariables false
set_option linter.unusedSimpArgs false

structure TlRel (w : World) (l : List Sta) (i mv : Value) (wr : World) : Prop where
  ex : ∃ (k : Nat) (p : Option Addr) (cap : Nat), k ≤ l.length ∧ i = .int .i64 (k : Int) ∧ mv = .slice p k cap ∧ Sl.Own kR wr w.heap.size p cap (l.take k)
  bel : Below w.heap.size w wr
theorem take_snoc {l : List Sta} {k : Nat} {t : Sta} (h : l[k]? = some t) : l.take k ++ [t] = l.take (k + 1) := by rw [List.take_add_one, h]; rfl
set_option maxHeartbeats 4000000 in
set_option maxRecDepth 100000 in
theorem linkTells_any (p c : Sta) (l : List Sta) (P : Option Addr) (pc : Nat) (w : World) (ok : p.Ok) (kc : c.Ok) (hs : At kS w P l) (hk : w.rangeAt 0 0 (u32s ks)) (hk2 : w.rangeAt 1 0 (u32s ks)) :
    Calls Tryd.prog 3 #[.agg (scs p).toArray, .agg (scs c).toArray, .slice P l.length pc] w fun e w' => e = .returned (.bool true) ∧ Below w.heap.size w w' := by
  have hk1 : 0 < w.heap.size := range_lt hk (by simp [u32s, ks])
  have HKW : Hid (∀ w', Below w.heap.size w w' → w'.rangeAt 0 0 (u32s ks)) := Lib.hid fun w' hb => range_block hk (hb.block _ hk1)
  have hk3 : 1 < w.heap.size := range_lt hk2 (by simp [u32s, ks])
  have HKR : Hid (∀ w', Below w.heap.size w w' → w'.rangeAt 1 0 (u32s ks)) := Lib.hid fun w' hb => range_block hk2 (hb.block _ hk3)
  have OK := Lib.hid ok; have KC := Lib.hid kc; have HS := Lib.hid hs
  have CA := Lib.hid (fun w0 h => awake_any w0 h)
  by_cases hbig : 40 < l.length
  · have hbd : decide ((40 : Int) < (l.length : Int)) = true := decide_eq_true (by omega)
    have hbd2 : decide (40 < l.length) = true := decide_eq_true hbig
    clear hs hk hk1 hk2 hk3 HS
    go_enter Tryd.func3, Tryd.ntmps3
    go_wp2_with (first
      | ((with_reducible refine at_slot 3 ?_); (refine arm_box (o := ⟨some 3, _, _, _, _, _⟩) rfl _ _ rfl (scs p) rfl ?_); intro A v1 Ae hv1 nv1)
      | ((with_reducible refine at_slot 4 ?_); (refine arm_box (o := ⟨some 4, _, _, _, _, _⟩) rfl _ _ rfl (scs c) rfl ?_); intro C v2 Ce hv2 nv2))
    have q0 := Ae.out
    have q1 := nv1.size
    have q2 := Ce.out
    have q3 := nv2.size
    have lA : w.heap.size ≤ A := by omega
    have lC : w.heap.size ≤ C := by omega
    have nAC : A ≠ C := by omega
    have nCA : C ≠ A := by omega
    have rA3 : Row v2 A 35 (scs p) := (hv1.old nv2.below)
    have rC3 : Row v2 C 35 (scs c) := hv2
    have bel3 : Below w.heap.size w v2 := (below_step (below_step (Below.refl _ _) (by omega) nv1.below) (by omega) nv2.below)
    clear q0 q1 q2 q3 Ae hv1 nv1 Ce hv2 nv2
    refine (CA.out _ (HKW.out _ bel3)).mono ?_
    rintro e y4 ⟨rfl, hB⟩
    have rA4 : Row y4 A 35 (scs p) := rA3.old hB
    have rC4 : Row y4 C 35 (scs c) := rC3.old hB
    have bel4 : Below w.heap.size w y4 := below_step bel3 bel3.size hB
    clear hB rA3 rC3 bel3
    go_wp2_with fail
    go_ret
    exact ⟨rfl, bel4⟩
  · have hbd : decide ((40 : Int) < (l.length : Int)) = false := decide_eq_false (by omega)
    have hbd2 : decide (40 < l.length) = false := decide_eq_false hbig
    have CO := Lib.hid (fun w0 => own11_any p w0 ok)
    have CO2 := Lib.hid (fun w0 => own11_any c w0 kc)
    have CO3 := Lib.hid (fun t w0 k => own11_any t w0 k)
    have CR := Lib.hid (fun w0 => Sa.rright_any p w0 ok)
    have CR3 := Lib.hid (fun t w0 k => Sa.rright_any t w0 k)
    have CF : Hid (SRt p → ∀ w0, w0.rangeAt 0 0 (u32s ks) → Calls Tryd.prog 9 #[.agg (scs p).toArray, .agg (scs c).toArray] w0 fun e w' => e = .returned (.int .i64 (folE p c)) ∧ Below w0.heap.size w0 w') := Lib.hid fun hr w0 h => follows_any p c w0 ok hr kc h
    have CF2 : Hid (SRt p → ∀ w0, w0.rangeAt 1 0 (u32s ks) → Calls Tryd.prog 10 #[.agg (scs p).toArray, .agg (scs c).toArray] w0 fun e w' => e = .returned (.int .i64 (folE p c)) ∧ Below w0.heap.size w0 w') := Lib.hid fun hr w0 h => rfollows_any p c w0 ok hr kc h
    have CL : Hid ((∀ t r, l = t :: r → SRt t) → ∀ w0, At kS w0 P l → w0.rangeAt 0 0 (u32s ks) → Calls Tryd.prog 11 #[.slice P l.length pc] w0 fun e w' => e = .returned (.tuple #[.int .i64 ((lineF l).1 : Nat), .int .i64 (lineF l).2]) ∧ Below w0.heap.size w0 w') := Lib.hid fun hr w0 h hk => line_any l P pc w0 h hr (by omega) hk
    have CL2 : Hid ((∀ t r, l = t :: r → SRt t) → ∀ q qc w0, At kR w0 q l → w0.rangeAt 1 0 (u32s ks) → Calls Tryd.prog 12 #[.slice q l.length qc] w0 fun e w' => e = .returned (.tuple #[.int .i64 ((lineF l).1 : Nat), .int .i64 (lineF l).2]) ∧ Below w0.heap.size w0 w') := Lib.hid fun hr q qc w0 h hk => rline_any l q qc w0 h hr (by omega) hk
    generalize folE p c = z at CF CF2
    generalize lineF l = q at CL CL2
    obtain ⟨qn, qe⟩ := q
    clear hs hk hk1 hk2 hk3 ok kc
    go_enter Tryd.func3, Tryd.ntmps3
    go_wp2_with (first
      | ((with_reducible refine at_slot 3 ?_); (refine arm_box (o := ⟨some 3, _, _, _, _, _⟩) rfl _ _ rfl (scs p) rfl ?_); intro A v1 Ae hv1 nv1)
      | ((with_reducible refine at_slot 4 ?_); (refine arm_box (o := ⟨some 4, _, _, _, _, _⟩) rfl _ _ rfl (scs c) rfl ?_); intro C v2 Ce hv2 nv2))
    have q0 := Ae.out
    have q1 := nv1.size
    have q2 := Ce.out
    have q3 := nv2.size
    have lA : w.heap.size ≤ A := by omega
    have lC : w.heap.size ≤ C := by omega
    have nAC : A ≠ C := by omega
    have nCA : C ≠ A := by omega
    have rA3 : Row v2 A 35 (scs p) := (hv1.old nv2.below)
    have rC3 : Row v2 C 35 (scs c) := hv2
    have bel3 : Below w.heap.size w v2 := (below_step (below_step (Below.refl _ _) (by omega) nv1.below) (by omega) nv2.below)
    clear q0 q1 q2 q3 Ae hv1 nv1 Ce hv2 nv2
    refine (CA.out _ (HKW.out _ bel3)).mono ?_
    rintro e y4 ⟨rfl, hB⟩
    have rA4 : Row y4 A 35 (scs p) := rA3.old hB
    have rC4 : Row y4 C 35 (scs c) := rC3.old hB
    have bel4 : Below w.heap.size w y4 := below_step bel3 bel3.size hB
    clear hB rA3 rC3 bel3
    go_wp2_with fail
    go_cut [32] (fun v wx => v = .bool false ∧ Below w.heap.size w wx)
    case first =>
      by_cases hr : SRt p
      · rw [decide_eq_true hr] at CR
        have CFr := CF.out hr; have CF2r := CF2.out hr
        clear CF CF2 CL CL2 hr
        refine wp_region_quiet (C := fun w' => Below y4.heap.size y4 w') (by kernel_rfl) (by kernel_rfl) ((Below.refl _ _).drew) ?_
        rw [List.toList_toArray]
        refine q_value 19 rfl (.agg (scs p).toArray) (by kernel_rfl) (fun w' hC => run_op_load _ _ rfl A 0 rfl (scs p) ((Has.refl _).range (rA4.old hC)) (sz_sta OK.out)) ?_
        simp only [Act.put, List.setIfInBounds_toArray, List.set_cons_zero, List.set_cons_succ]
        refine q_call 20 rfl (.agg (scs p).toArray) 8 #[.agg (scs p).toArray] (by kernel_rfl) (fun w' _ => run_op_call _ _ _ rfl _ (by simp only [List.map_toArray, List.map_cons, List.map_nil]; rfl) Tryd.func8 (by kernel_rfl) (by kernel_rfl) w') (fun w' hC => (CO.out w').mono fun e w'' h => ⟨h.1, below_step hC hC.size h.2⟩) ?_
        simp only [Act.put, List.setIfInBounds_toArray, List.set_cons_zero, List.set_cons_succ]
        refine q_call 21 rfl (.bool true) 7 #[.agg (scs p).toArray] (by kernel_rfl) (fun w' _ => run_op_call _ _ _ rfl _ (by simp only [List.map_toArray, List.map_cons, List.map_nil]; rfl) Tryd.func7 (by kernel_rfl) (by kernel_rfl) w') (fun w' hC => (CR.out w').mono fun e w'' h => ⟨h.1, below_step hC hC.size h.2⟩) ?_
        simp only [Act.put, List.setIfInBounds_toArray, List.set_cons_zero, List.set_cons_succ]
        refine q_value 22 rfl (.bool true) (by kernel_rfl) (fun w' _ => by kernel_rfl) ?_
        simp only [Act.put, List.setIfInBounds_toArray, List.set_cons_zero, List.set_cons_succ]
        refine q_value 23 rfl (.agg (scs p).toArray) (by kernel_rfl) (fun w' hC => run_op_load _ _ rfl A 0 rfl (scs p) ((Has.refl _).range (rA4.old hC)) (sz_sta OK.out)) ?_
        simp only [Act.put, List.setIfInBounds_toArray, List.set_cons_zero, List.set_cons_succ]
        refine q_value 24 rfl (.agg (scs c).toArray) (by kernel_rfl) (fun w' hC => run_op_load _ _ rfl C 0 rfl (scs c) ((Has.refl _).range (rC4.old hC)) (sz_sta KC.out)) ?_
        simp only [Act.put, List.setIfInBounds_toArray, List.set_cons_zero, List.set_cons_succ]
        refine q_call 25 rfl (.int .i64 z) 9 #[.agg (scs p).toArray, .agg (scs c).toArray] (by kernel_rfl) (fun w' _ => run_op_call _ _ _ rfl _ (by simp only [List.map_toArray, List.map_cons, List.map_nil]; rfl) Tryd.func9 (by kernel_rfl) (by kernel_rfl) w') (fun w' hC => (CFr w' (HKW.out w' (below_step bel4 bel4.size hC))).mono fun e w'' h => ⟨h.1, below_step hC hC.size h.2⟩) ?_
        simp only [Act.put, List.setIfInBounds_toArray, List.set_cons_zero, List.set_cons_succ]
        refine q_value 26 rfl (.agg (scs p).toArray) (by kernel_rfl) (fun w' hC => run_op_load _ _ rfl A 0 rfl (scs p) ((Has.refl _).range (rA4.old hC)) (sz_sta OK.out)) ?_
        simp only [Act.put, List.setIfInBounds_toArray, List.set_cons_zero, List.set_cons_succ]
        refine q_call 27 rfl (.agg (scs p).toArray) 8 #[.agg (scs p).toArray] (by kernel_rfl) (fun w' _ => run_op_call _ _ _ rfl _ (by simp only [List.map_toArray, List.map_cons, List.map_nil]; rfl) Tryd.func8 (by kernel_rfl) (by kernel_rfl) w') (fun w' hC => (CO.out w').mono fun e w'' h => ⟨h.1, below_step hC hC.size h.2⟩) ?_
        simp only [Act.put, List.setIfInBounds_toArray, List.set_cons_zero, List.set_cons_succ]
        refine q_value 28 rfl (.agg (scs c).toArray) (by kernel_rfl) (fun w' hC => run_op_load _ _ rfl C 0 rfl (scs c) ((Has.refl _).range (rC4.old hC)) (sz_sta KC.out)) ?_
        simp only [Act.put, List.setIfInBounds_toArray, List.set_cons_zero, List.set_cons_succ]
        refine q_call 29 rfl (.agg (scs c).toArray) 8 #[.agg (scs c).toArray] (by kernel_rfl) (fun w' _ => run_op_call _ _ _ rfl _ (by simp only [List.map_toArray, List.map_cons, List.map_nil]; rfl) Tryd.func8 (by kernel_rfl) (by kernel_rfl) w') (fun w' hC => (CO2.out w').mono fun e w'' h => ⟨h.1, below_step hC hC.size h.2⟩) ?_
        simp only [Act.put, List.setIfInBounds_toArray, List.set_cons_zero, List.set_cons_succ]
        refine q_call 30 rfl (.int .i64 z) 10 #[.agg (scs p).toArray, .agg (scs c).toArray] (by kernel_rfl) (fun w' _ => run_op_call _ _ _ rfl _ (by simp only [List.map_toArray, List.map_cons, List.map_nil]; rfl) Tryd.func10 (by kernel_rfl) (by kernel_rfl) w') (fun w' hC => (CF2r w' (HKR.out w' (below_step bel4 bel4.size hC))).mono fun e w'' h => ⟨h.1, below_step hC hC.size h.2⟩) ?_
        simp only [Act.put, List.setIfInBounds_toArray, List.set_cons_zero, List.set_cons_succ]
        refine q_value 31 rfl (.bool false) (by kernel_rfl) (fun w' _ => cmp_neq _ _ .i64 (by kernel_rfl) _ _ rfl .i64 z z rfl rfl false (decide_eq_true rfl) w') ?_
        simp only [Act.put, List.setIfInBounds_toArray, List.set_cons_zero, List.set_cons_succ]
        refine q_value 32 rfl (.bool false) (by kernel_rfl) (fun w' _ => by kernel_rfl) ?_
        simp only [Act.put, List.setIfInBounds_toArray, List.set_cons_zero, List.set_cons_succ]
        refine wpQuiet_nil ?_
        intro w2 hC
        go_wp2_with fail
        go_meet
        exact ⟨rfl, below_step bel4 bel4.size hC⟩
      · rw [decide_eq_false hr] at CR
        clear CF CF2 CL CL2 hr
        refine wp_region_held (S := fun w' => Row w' A 35 (scs p) ∧ True) (by kernel_rfl) ?_
        change wpAnyH _ _ _ _ _ _ _ _ y4.drew
        have rA5 : Row y4.drew A 35 (scs p) := rA4
        have rC5 : Row y4.drew C 35 (scs c) := rC4
        have bel5 : Below w.heap.size w y4.drew := bel4.trans ((Below.refl _ _).drew)
        clear rA4 rC4 bel4
        generalize y4.drew = y5 at rA5 rC5 bel5 ⊢
        refine h_take 0 (.agg (scs p).toArray) rfl 19 rfl (by kernel_rfl) (by kernel_rfl) (by kernel_rfl) (by kernel_rfl) (fun _ _ _ h => h) (fun w' hw => run_op_load _ _ rfl A 0 rfl (scs p) ((show Has (scs p) 0 (scs p) from Has.refl _).range hw.1) (sz_sta OK.out)) ⟨rA5, trivial⟩ ?_
        simp only [Act.put, List.setIfInBounds_toArray, List.set_cons_zero, List.set_cons_succ]
        refine h_one (i := 1) (by kernel_rfl) (o_call rfl 20 rfl (by kernel_rfl) (run_op_call 8 _ _ rfl #[.agg (scs p).toArray] (by simp only [List.map_toArray, List.map_cons, List.map_nil]; rfl) Tryd.func8 (by kernel_rfl) (by kernel_rfl) _) (CO.out y5) ?_)
        rintro e y6 ⟨rfl, hB⟩
        have rA6 : Row y6 A 35 (scs p) := rA5.old hB
        have rC6 : Row y6 C 35 (scs c) := rC5.old hB
        have bel6 : Below w.heap.size w y6 := below_step bel5 bel5.size hB
        clear hB rA5 rC5 bel5
        refine ⟨_, rfl, ⟨rA6, trivial⟩, ?_⟩
        simp only [Act.put, List.setIfInBounds_toArray, List.set_cons_zero, List.set_cons_succ]
        refine h_one (i := 2) (by kernel_rfl) (o_call rfl 21 rfl (by kernel_rfl) (run_op_call 7 _ _ rfl #[.agg (scs p).toArray] (by simp only [List.map_toArray, List.map_cons, List.map_nil]; rfl) Tryd.func7 (by kernel_rfl) (by kernel_rfl) _) (CR.out y6) ?_)
        rintro e y7 ⟨rfl, hB⟩
        have rA7 : Row y7 A 35 (scs p) := rA6.old hB
        have rC7 : Row y7 C 35 (scs c) := rC6.old hB
        have bel7 : Below w.heap.size w y7 := below_step bel6 bel6.size hB
        clear hB rA6 rC6 bel6
        refine ⟨_, rfl, ⟨rA7, trivial⟩, ?_⟩
        simp only [Act.put, List.setIfInBounds_toArray, List.set_cons_zero, List.set_cons_succ]
        refine h_take 3 (.bool false) rfl 22 rfl (by kernel_rfl) (by kernel_rfl) (by kernel_rfl) (by kernel_rfl) (fun _ _ _ h => h) (fun w' _ => by kernel_rfl) ⟨rA7, trivial⟩ ?_
        simp only [Act.put, List.setIfInBounds_toArray, List.set_cons_zero, List.set_cons_succ]
        refine h_pass 4 rfl 23 rfl (by kernel_rfl) (by kernel_rfl) (by kernel_rfl) (by kernel_rfl) (fun _ _ _ h => h) ⟨rA7, trivial⟩ ?_
        simp only [Act.put, List.setIfInBounds_toArray, List.set_cons_zero, List.set_cons_succ]
        refine h_pass 5 rfl 24 rfl (by kernel_rfl) (by kernel_rfl) (by kernel_rfl) (by kernel_rfl) (fun _ _ _ h => h) ⟨rA7, trivial⟩ ?_
        simp only [Act.put, List.setIfInBounds_toArray, List.set_cons_zero, List.set_cons_succ]
        refine h_pass 6 rfl 25 rfl (by kernel_rfl) (by kernel_rfl) (by kernel_rfl) (by kernel_rfl) (fun _ _ _ h => h) ⟨rA7, trivial⟩ ?_
        simp only [Act.put, List.setIfInBounds_toArray, List.set_cons_zero, List.set_cons_succ]
        refine h_pass 7 rfl 26 rfl (by kernel_rfl) (by kernel_rfl) (by kernel_rfl) (by kernel_rfl) (fun _ _ _ h => h) ⟨rA7, trivial⟩ ?_
        simp only [Act.put, List.setIfInBounds_toArray, List.set_cons_zero, List.set_cons_succ]
        refine h_pass 8 rfl 27 rfl (by kernel_rfl) (by kernel_rfl) (by kernel_rfl) (by kernel_rfl) (fun _ _ _ h => h) ⟨rA7, trivial⟩ ?_
        simp only [Act.put, List.setIfInBounds_toArray, List.set_cons_zero, List.set_cons_succ]
        refine h_pass 9 rfl 28 rfl (by kernel_rfl) (by kernel_rfl) (by kernel_rfl) (by kernel_rfl) (fun _ _ _ h => h) ⟨rA7, trivial⟩ ?_
        simp only [Act.put, List.setIfInBounds_toArray, List.set_cons_zero, List.set_cons_succ]
        refine h_pass 10 rfl 29 rfl (by kernel_rfl) (by kernel_rfl) (by kernel_rfl) (by kernel_rfl) (fun _ _ _ h => h) ⟨rA7, trivial⟩ ?_
        simp only [Act.put, List.setIfInBounds_toArray, List.set_cons_zero, List.set_cons_succ]
        refine h_pass 11 rfl 30 rfl (by kernel_rfl) (by kernel_rfl) (by kernel_rfl) (by kernel_rfl) (fun _ _ _ h => h) ⟨rA7, trivial⟩ ?_
        simp only [Act.put, List.setIfInBounds_toArray, List.set_cons_zero, List.set_cons_succ]
        refine h_pass 12 rfl 31 rfl (by kernel_rfl) (by kernel_rfl) (by kernel_rfl) (by kernel_rfl) (fun _ _ _ h => h) ⟨rA7, trivial⟩ ?_
        simp only [Act.put, List.setIfInBounds_toArray, List.set_cons_zero, List.set_cons_succ]
        refine h_take 13 (.bool false) rfl 32 rfl (by kernel_rfl) (by kernel_rfl) (by kernel_rfl) (by kernel_rfl) (fun _ _ _ h => h) (fun w' _ => by kernel_rfl) ⟨rA7, trivial⟩ ?_
        simp only [Act.put, List.setIfInBounds_toArray, List.set_cons_zero, List.set_cons_succ]
        refine wpAnyH_done (by kernel_rfl) ?_ _
        go_wp2_with fail
        go_meet
        exact ⟨rfl, bel7⟩
    case rest =>
      obtain ⟨rfl, belc⟩ := hcut
      clear rA4 rC4 bel4 CF CF2 CO CO2 CR
      go_wp2_with (first
        | ((with_reducible refine at_slot 33 ?_); (refine arm_lit (K := kR) (o := ⟨some 33, _, _, _, _, _⟩) rfl fR [] allOk_nil (by simp) _ _ rfl rfl (by simp only [List.map_toArray, List.map_nil]; rfl) ?_); intro M v1 Me hM nM))
      have hM0 : Sl.Own kR v1 w.heap.size (some ⟨M, 0, none⟩) 0 [] := Sl.Own.row fR allOk_nil (by have := Me.out; have := belc.size; omega) (by simp) hM
      have bel1 : Below w.heap.size w v1 := below_step belc belc.size nM.below
      have h0 : TlRel w l (.int .i64 0) (.slice (some ⟨M, 0, none⟩) 0 0) v1 := ⟨⟨0, _, 0, by omega, rfl, rfl, hM0⟩, bel1⟩
      clear hM0 bel1 belc Me hM nM
      go_loopw [36, 7] (fun i mv wr => TlRel w l i mv wr) (fun i _ _ => l.length - (intOf i).toNat)
      case atStart => exact h0
      case round =>
        clear h0
        obtain ⟨⟨k, mp, mc, hk, rfl, rfl, hown⟩, bel⟩ := hrel
        by_cases hlt : k < l.length
        · obtain ⟨t, g, o, ht, kt, hP, hgl, hrs⟩ := HS.out.get hlt
          subst hP
          have RT := Lib.hid (range_block hrs (bel.block g hgl)); have KT := Lib.hid kt; have HT := Lib.hid ht
          have ik : (k : Int) < (l.length : Int) := by omega
          clear hrs kt ht
          go_wp2_with (first
            | ((with_reducible refine at_slot 38 ?_); (refine arm_want (.pointer (some ⟨g, o + k * 363, none⟩)) 38 rfl (by kernel_rfl) (run_op_index fS _ _ rfl g o _ _ rfl .i64 _ rfl k rfl hlt _) ?_))
            | ((with_reducible refine at_slot 39 ?_); (refine arm_load (o := ⟨some 39, _, _, _, _, _⟩) rfl _ _ rfl g (o + k * 363) rfl (scs t) (RT.out) (sz_sta KT.out) ?_))
            | ((with_reducible refine at_slot 9 ?_); (refine arm_alloc (o := ⟨some 9, _, _, _, _, _⟩) rfl _ rfl (scs zs) z_sta ?_); intro X v101 Xe hv101 nv101)
            | ((with_reducible refine arm_store (o := ⟨none, _, _, _, _, _⟩) rfl _ _ _ rfl X 0 rfl (scs t) rfl _ _ (hv101) (fitS KT.out) (scs_one _) (sz_sta KT.out) ?_); intro v102 hv102 ov102 sv102)
            | ((with_reducible refine at_slot 41 ?_); (refine arm_load (o := ⟨some 41, _, _, _, _, _⟩) rfl _ _ rfl X 0 rfl (scs t) ((show Has (scs t) 0 (scs t) from Has.refl _).range ((hv102.congr (allS KT.out)))) (sz_sta KT.out) ?_)))
          have q0 := Xe.out
          have q1 := nv101.size
          have q2 := sv102.out
          have q3 := bel.size
          have lX : w.heap.size ≤ X := by omega
          have pX : bk mp ≠ some X := fun e => by have := (hown.ge e).2; omega
          have rX103 : Row v102 X 35 (scs t) := (hv102.congr (allS KT.out))
          have hown103 := ((hown.below nv101.below).only ov102 pX)
          have bel103 : Below w.heap.size w v102 := (below_only (below_step bel (by omega) nv101.below) ov102 lX (by omega))
          clear q0 q1 q2 q3 hown bel Xe hv101 nv101 hv102 ov102 sv102
          refine (CO3.out t _ KT.out).mono ?_
          rintro e y104 ⟨rfl, hB⟩
          have rX104 : Row y104 X 35 (scs t) := rX103.old hB
          have hown104 := hown103.below hB
          have bel104 : Below w.heap.size w y104 := below_step bel103 bel103.size hB
          clear hB rX103 hown103 bel103
          clear rX104
          go_wp2_with (first
            | ((with_reducible refine at_slot 43 ?_); (refine arm_lit (K := kR) (o := ⟨some 43, _, _, _, _, _⟩) rfl fR [t] (allOk_cons KT.out allOk_nil) (by simp) _ _ rfl rfl (by simp only [List.map_toArray, List.map_cons, List.map_nil]; rfl) ?_); intro Y vY Ye hY nY)
            | ((with_reducible refine at_slot 44 ?_); (refine arm_append (K := kR) (o := ⟨some 44, _, _, _, _, _⟩) rfl fR _ _ rfl (w.heap.size) (mp) _ mc (l.take k) (by rw [List.length_take]; omega) rfl (hown104.below nY.below) (some ⟨Y, 0, none⟩) 1 1 ([t]) rfl rfl (At.row fR (allOk_cons KT.out allOk_nil) hY (List.append_nil _).symm) (by simp) (by simp only [List.length_take, List.length_cons, List.length_nil]; omega) (by have := bel104.size; have := nY.size; omega) ?_); intro mp2 mc2 vZ hO hBZ hkp hat; rw [show (l.take k ++ [t]).length = k + 1 by rw [List.length_append, List.length_take, List.length_cons, List.length_nil]; omega]))
          rw [take_snoc HT.out] at hO
          have belZ : Below w.heap.size w vZ := (below_step bel104 bel104.size nY.below).trans hBZ
          clear hown104 bel104 Ye hY nY hBZ hkp hat pX
          go_roundw
          case rel => exact ⟨⟨k + 1, mp2, mc2, by omega, by go_num, rfl, hO⟩, belZ⟩
          case measure => simp [intOf]; omega
        · obtain rfl : k = l.length := by omega
          rw [List.take_length] at hown
          by_cases h0 : l.length = 0
          · have HR : Hid (∀ t r, l = t :: r → SRt t) := Lib.hid fun t r e => by rw [e] at h0; simp at h0
            have hd1 : decide ((0 : Int) < (l.length : Int)) = false := decide_eq_false (by omega)
            have hd2 : decide (0 < l.length) = false := decide_eq_false (by omega)
            have hd3 : ¬ ((0 : Int) < (l.length : Int)) := by omega
            have hd4 : ¬ (0 < l.length) := by omega
            clear h0
            have CLr := CL.out HR.out; have CL2r := CL2.out HR.out (mp) mc
            clear CL CL2
            go_wp2_with fail
            refine (CLr _ (HS.out.below bel) (HKW.out _ bel)).mono ?_
            rintro e y101 ⟨rfl, hB⟩
            have hown101 := hown.below hB
            have bel101 : Below w.heap.size w y101 := below_step bel bel.size hB
            clear hB hown bel
            go_wp2_with fail
            refine (CL2r _ (hown101.at fR) (HKR.out _ bel101)).mono ?_
            rintro e y102 ⟨rfl, hB⟩
            have hown102 := hown101.below hB
            have bel102 : Below w.heap.size w y102 := below_step bel101 bel101.size hB
            clear hB hown101 bel101
            go_wp2_with (first
              | ((with_reducible refine at_slot 68 ?_); (refine arm_want (.bool true) 68 rfl (by kernel_rfl) (cmp_eql _ _ .i64 (by kernel_rfl) _ _ rfl .i64 (qn : Int) (qn : Int) rfl rfl true (decide_eq_true rfl) _) ?_))
              | ((with_reducible refine at_slot 72 ?_); (refine arm_want (.bool true) 72 rfl (by kernel_rfl) (cmp_eql _ _ .i64 (by kernel_rfl) _ _ rfl .i64 qe qe rfl rfl true (decide_eq_true rfl) _) ?_)))
            go_ret
            exact ⟨rfl, bel102⟩
          · obtain ⟨t, g, o, ht, kt, hP, hgl, hrs⟩ := (hown.at fR).get (k := 0) (by omega)
            subst hP
            have hd1 : decide ((0 : Int) < (l.length : Int)) = true := decide_eq_true (by omega)
            have hd2 : decide (0 < l.length) = true := decide_eq_true (by omega)
            have hd3 : (0 : Int) < (l.length : Int) := by omega
            have hd4 : 0 < l.length := by omega
            have RT : Hid (wr.rangeAt g (o + 0 * 363) (scs t)) := Lib.hid hrs
            have KT := Lib.hid kt; have HT := Lib.hid ht
            clear hrs kt ht h0
            go_wp2_with (first
              | ((with_reducible refine at_slot 51 ?_); (refine arm_want (.pointer (some ⟨g, o + 0 * 363, none⟩)) 51 rfl (by kernel_rfl) (run_op_index fR _ _ rfl g o _ _ rfl .i64 0 rfl 0 rfl hd4 _) ?_))
              | ((with_reducible refine at_slot 52 ?_); (refine arm_want (.agg (scs t).toArray) 52 rfl (by kernel_rfl) (run_op_load _ _ rfl g (o + 0 * 363) rfl (scs t) RT.out (fR.sized KT.out)) ?_)))
            refine (CR3.out t _ KT.out).mono ?_
            rintro e y101 ⟨rfl, hB⟩
            have hown101 := hown.below hB
            have bel101 : Below w.heap.size w y101 := below_step bel bel.size hB
            clear hB hown bel
            by_cases hr : SRt t
            · rw [decide_eq_true hr]
              have HR : Hid (∀ t r, l = t :: r → SRt t) := Lib.hid fun t' r e => by have := HT.out; rw [e] at this; obtain rfl : t' = t := (by simpa using this); exact hr
              have CLr := CL.out HR.out; have CL2r := CL2.out HR.out (some ⟨g, o, none⟩) mc
              clear CL CL2
              go_wp2_with fail
              refine (CLr _ (HS.out.below bel101) (HKW.out _ bel101)).mono ?_
              rintro e y102 ⟨rfl, hB⟩
              have hown102 := hown101.below hB
              have bel102 : Below w.heap.size w y102 := below_step bel101 bel101.size hB
              clear hB hown101 bel101
              go_wp2_with fail
              refine (CL2r _ (hown102.at fR) (HKR.out _ bel102)).mono ?_
              rintro e y103 ⟨rfl, hB⟩
              have hown103 := hown102.below hB
              have bel103 : Below w.heap.size w y103 := below_step bel102 bel102.size hB
              clear hB hown102 bel102
              go_wp2_with (first
                | ((with_reducible refine at_slot 68 ?_); (refine arm_want (.bool true) 68 rfl (by kernel_rfl) (cmp_eql _ _ .i64 (by kernel_rfl) _ _ rfl .i64 (qn : Int) (qn : Int) rfl rfl true (decide_eq_true rfl) _) ?_))
                | ((with_reducible refine at_slot 72 ?_); (refine arm_want (.bool true) 72 rfl (by kernel_rfl) (cmp_eql _ _ .i64 (by kernel_rfl) _ _ rfl .i64 qe qe rfl rfl true (decide_eq_true rfl) _) ?_)))
              go_ret
              exact ⟨rfl, bel103⟩
            · rw [decide_eq_false hr]
              go_wp2_with fail
              go_ret
              exact ⟨rfl, bel101⟩
end Go.Proofs.YtphbpndjebfacaaDoor.Lk
