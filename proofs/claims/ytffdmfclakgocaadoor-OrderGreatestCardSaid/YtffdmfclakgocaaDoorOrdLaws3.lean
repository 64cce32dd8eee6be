/-
  The walk of layer 12's statement OrderGreatest, out of the contracts: it returns true, and changes nothing that was there. Over this seat's translation.
-/
import Derived.Test.YtffdmfclakgocaaDoorOrdAwake
namespace Go.Proofs.YtffdmfclakgocaaDoor.Od
open Go.ChangeShapes Go.WideShapes Go.ChangeAt Go.RowKit Go.Proofs.YtffdmfclakgocaaDoor.Mem Go.Proofs.YtffdmfclakgocaaDoor.Bt Go.Proofs.YtffdmfclakgocaaDoor.Sl
open Go.Proofs.YtffdmfclakgocaaDoor.Ep (H32 zh zh_ok num32 Has h_len one_app one_num szH zH fitH allH)
open Go.Proofs.YtffdmfclakgocaaDoor.Sha (ks)
open Go.Proofs.YtffdmfclakgocaaDoor.Sa (Sta scs digS digS_ok sz_sta sz_rsta h_drw h_lngth)
set_option linter.unusedVariables false
set_option linter.unusedSimpArgs false

theorem at_range {α : Type} {K : Kind α} {w : World} {g o : Nat} {l : List α} (h : At K w (some ⟨g, o, none⟩) l) {k : Nat} {x : α} (hk : l[k]? = some x) : w.rangeAt g (o + k * K.n) (K.cs x) := by
  obtain ⟨g', o', e, _, hr⟩ := h.at_ k x hk
  obtain ⟨rfl, rfl⟩ : g = g' ∧ o = o' := by simpa using e
  exact hr
section
variable {α : Type} {K : Kind α} {P : Program} {o : Oper} {a : Act}
theorem run_op_lenQ (x : Operand) (t e : TypeId) (ho : o.op = .call { callee := .builtin .len, args := #[x], argTypes := #[t] }) (hu : P.underlying t = some (.slice e)) (p : Option Addr) (n c : Nat) (hx : a.eval x = .slice p n c) (w : World) :
    (execOp a.eval o).run P w = .ok (.value (.int .i64 (n : Int))) w := by
  unfold execOp
  simp [ho, resolve, invoke, builtin, hx, Builtin.len_, run_underlying hu]
  rfl
/-- 'append(s, x...)' of no value. -/
theorem run_op_append0 (F : K.Fit P) (s x : Operand) (ho : o.op = .call { callee := .builtin .append, args := #[s, x], argTypes := #[K.ts, K.ts] }) (p : Option Addr) (n cap : Nat) (hc : n ≤ cap)
    (hs : a.eval s = .slice p n cap) (q : Option Addr) (c : Nat) (hx : a.eval x = .slice q 0 c) (w : World) : (execOp a.eval o).run P w = .ok (.value (.slice p n cap)) w := by
  obtain ⟨i0, hi, hz0, hz1, hz2⟩ := F.parts
  have hr : (Builtin.append_ #[K.ts, K.ts] o.type #[.slice p n cap, .slice q 0 c]).run P w = .ok (.slice p n cap) w := by
    cases p <;> cases q <;> simp [Builtin.append_, run_underlying F.und, sizeOf, typeInfo, hi, Builtin.lenOf, Builtin.firstCells, loadCells, loadCellsFrom, storeCells, hc]
  unfold execOp
  simp only [ho, resolve, invoke, builtin, Sem.run_bind, Sem.run_pure, Result.andThen_ok, List.map_toArray, List.map_cons, List.map_nil, hs, hx, hr]
variable {ops : Array Oper} {w : World} {Q : Exit → Act → World → Prop}
/-- 'append(s, x...)' of no value or of some, in a region that draws its order. -/
theorem o_appendQ {i : Nat} {X : Act → World → Prop} (hi : ops[i]? = some o) (d : Tmp) (hd : o.dst = some d) (hg : Region.wanted o (yielded ops a.tmps) = true) (F : K.Fit P) (s x : Operand) (ho : o.op = .call { callee := .builtin .append, args := #[s, x], argTypes := #[K.ts, K.ts] }) (base : Nat) (p : Option Addr) (n cap : Nat) (l : List α) (hn : n = l.length)
    (hs : a.eval s = .slice p n cap) (hown : Sl.Own K w base p cap l) (q : Option Addr) (m c : Nat) (ys : List α) (hx : a.eval x = .slice q m c) (hm : m = ys.length) (hy : At K w q ys) (hz : l.length + ys.length ≤ 1000000) (hb : base ≤ w.heap.size)
    (h : ∀ p' cap' w', Sl.Own K w' base p' cap' (l ++ ys) → Below base w w' → Hid (∀ g, g < w.heap.size → bk p ≠ some g → w'.heap[g]? = w.heap[g]?) → Hid (bk p' = bk p ∨ bk p' = some w.heap.size) → X (a.put (some d) (.slice p' (l ++ ys).length cap')) w') : wpOp P ops Q i X a w := by
  by_cases hne : 0 < ys.length
  · exact Sl.o_append hi d hd hg F s x ho base p n cap l hn hs hown q m c ys hx hm hy hne hz hb h
  · obtain rfl : ys = [] := List.eq_nil_of_length_eq_zero (by omega)
    subst hm hn
    have := h p cap w
    rw [List.append_nil] at this
    exact o_value _ hi d hd hg (run_op_append0 F s x ho p l.length cap hown.cap hs q c hx w) (this hown (Below.refl _ _) (Lib.hid fun _ _ _ => rfl) (Lib.hid (.inl rfl)))
end
/-- A list turned has the same greatest key. -/
theorem turned {l : List Ky} {m j j2 : Nat} {u u2 : Ky} (ok : ∀ x ∈ l, x.Ok) (hj : Top l l.length j) (hu : l[j]? = some u) (hr : Top (l.drop m ++ l.take m) (l.drop m ++ l.take m).length j2) (hu2 : (l.drop m ++ l.take m)[j2]? = some u2) : u2 = u := by
  have hin : ∀ x, x ∈ l.drop m ++ l.take m ↔ x ∈ l := fun x => by
    rw [List.mem_append, Or.comm, ← List.mem_append, List.take_append_drop]
  have m2 : u2 ∈ l := (hin u2).1 (List.mem_of_getElem? hu2)
  have m1 : u ∈ l.drop m ++ l.take m := (hin u).2 (List.mem_of_getElem? hu)
  obtain ⟨i, hi⟩ := List.mem_iff_getElem?.1 m2
  obtain ⟨i2, hi2⟩ := List.mem_iff_getElem?.1 m1
  have h1 := hj.all i u2 u (List.getElem?_eq_some_iff.1 hi).1 hi hu
  have h2 := hr.all i2 u u2 (List.getElem?_eq_some_iff.1 hi2).1 hi2 hu2
  exact kval_inj (ok _ m2) (ok _ (List.mem_of_getElem? hu)) (Nat.le_antisymm h1 h2)
structure OgRel (w : World) (l : List Ky) (i : Value) (wr : World) : Prop where
  ex : ∃ k : Nat, k ≤ l.length ∧ i = .int .i64 (k : Int)
  bel : Below w.heap.size w wr
set_option maxHeartbeats 4000000 in
set_option maxRecDepth 100000 in
theorem orderGreatest_any (l : List Ky) (P : Option Addr) (pc : Nat) (T : Int) (w : World) (hs : At kK w P l) (hpc : l.length ≤ pc) (hk : w.rangeAt 1 0 (u32s ks)) :
    Calls Tryd.prog 5 #[.slice P l.length pc, .int .i64 T] w fun e w' => e = .returned (.bool true) ∧ Below w.heap.size w w' := by
  have hk1 : 1 < w.heap.size := range_lt hk (by simp [u32s, ks])
  have HKW : Hid (∀ w', Below w.heap.size w w' → w'.rangeAt 1 0 (u32s ks)) := Lib.hid fun w' hb => range_block hk (hb.block _ hk1)
  have HS := Lib.hid hs
  have CA := Lib.hid (fun w0 h => awake_any w0 h)
  clear hs hk hk1
  by_cases hbig : 40 < l.length
  · clear HS
    have hbd : decide ((40 : Int) < (l.length : Int)) = true := decide_eq_true (by omega)
    have hbd2 : decide (40 < l.length) = true := decide_eq_true (by omega)
    clear hbig
    go_enter Tryd.func5, Tryd.ntmps5
    go_wp2_with fail
    refine (CA.out _ (HKW.out _ (Below.refl w.heap.size w))).mono ?_
    rintro e y1 ⟨rfl, bel⟩
    go_wp2_with fail
    go_ret
    exact ⟨rfl, bel⟩
  by_cases hneg : T < 0
  · clear HS
    have hbd : decide ((40 : Int) < (l.length : Int)) = false := decide_eq_false (by omega)
    have hbd2 : decide (40 < l.length) = false := decide_eq_false (by omega)
    have hng : decide (T < (0 : Int)) = true := decide_eq_true (by omega)
    clear hneg
    go_enter Tryd.func5, Tryd.ntmps5
    go_wp2_with fail
    refine (CA.out _ (HKW.out _ (Below.refl w.heap.size w))).mono ?_
    rintro e y1 ⟨rfl, bel⟩
    go_wp2_with fail
    go_ret
    exact ⟨rfl, bel⟩
  by_cases hover : (l.length : Int) < T
  · clear HS
    have hbd : decide ((40 : Int) < (l.length : Int)) = false := decide_eq_false (by omega)
    have hbd2 : decide (40 < l.length) = false := decide_eq_false (by omega)
    have hng : decide (T < (0 : Int)) = false := decide_eq_false (by omega)
    have hov : decide ((l.length : Int) < T) = true := decide_eq_true (by omega)
    clear hover
    go_enter Tryd.func5, Tryd.ntmps5
    go_wp2_with fail
    refine (CA.out _ (HKW.out _ (Below.refl w.heap.size w))).mono ?_
    rintro e y1 ⟨rfl, bel⟩
    go_wp2_with fail
    go_ret
    exact ⟨rfl, bel⟩
  obtain ⟨m, rfl⟩ := Int.eq_ofNat_of_zero_le (show (0 : Int) ≤ T by omega)
  have hm : m ≤ l.length := by omega
  have HL : Hid (l.length ≤ 40) := Lib.hid (by omega)
  have hbd : decide ((40 : Int) < (l.length : Int)) = false := decide_eq_false (by omega)
  have hbd2 : decide (40 < l.length) = false := decide_eq_false (by omega)
  have hng : decide ((m : Int) < (0 : Int)) = false := decide_eq_false (by omega)
  have hov : decide ((l.length : Int) < (m : Int)) = false := decide_eq_false (by omega)
  have hov2 : decide (l.length < m) = false := decide_eq_false (by omega)
  have CG := Lib.hid (fun w0 h => greatest_any l P pc w0 h (by have := HL.out; omega))
  clear hbig hneg hover
  by_cases h0 : l.length = 0
  · rw [topF_none h0] at CG
    have H0 := Lib.hid h0
    clear h0
    go_enter Tryd.func5, Tryd.ntmps5
    go_wp2_with fail
    refine (CA.out _ (HKW.out _ (Below.refl w.heap.size w))).mono ?_
    rintro e y1 ⟨rfl, bel⟩
    go_wp2_with fail
    refine (CG.out _ (HS.out.below bel)).mono ?_
    rintro e y1 ⟨rfl, hB⟩
    have bel1 : Below w.heap.size w y1 := below_step bel bel.size hB
    clear hB bel
    go_wp2_with (first
      | ((with_reducible refine at_slot 29 ?_); (refine arm_want (.bool true) 29 rfl (by kernel_rfl) (cmp_eql _ _ .i64 (by kernel_rfl) _ _ rfl .i64 (l.length : Int) 0 rfl rfl true (decide_eq_true (by have := H0.out; omega)) _) ?_)))
    go_ret
    exact ⟨rfl, bel1⟩
  · obtain ⟨j, hz, hj⟩ := topF_has h0
    rw [hz] at CG
    obtain ⟨u, g, o, hu, ku, hP, hgl, hru⟩ := HS.out.get hj.lt
    subst hP
    have hjl := hj.lt
    have HJ := Lib.hid hj; have HU := Lib.hid hu; have KU := Lib.hid ku; have HP := Lib.hid hpc; have HGL := Lib.hid hgl
    have H0 := Lib.hid h0; have HM := Lib.hid hm
    have hj1 : decide ((j : Int) < (0 : Int)) = false := decide_eq_false (by omega)
    have hj2 : decide ((l.length : Int) ≤ (j : Int)) = false := decide_eq_false (by omega)
    have hj3 : decide (l.length ≤ j) = false := decide_eq_false (by omega)
    clear hz hj hu ku hru hpc hgl h0 hm
    go_enter Tryd.func5, Tryd.ntmps5
    go_wp2_with fail
    refine (CA.out _ (HKW.out _ (Below.refl w.heap.size w))).mono ?_
    rintro e y1 ⟨rfl, bel⟩
    go_wp2_with fail
    refine (CG.out _ (HS.out.below bel)).mono ?_
    rintro e y1 ⟨rfl, hB⟩
    have bel1 : Below w.heap.size w y1 := below_step bel bel.size hB
    clear hB bel
    go_wp2_with (first
      | ((with_reducible refine at_slot 29 ?_); (refine arm_want (.bool false) 29 rfl (by kernel_rfl) (cmp_eql _ _ .i64 (by kernel_rfl) _ _ rfl .i64 (l.length : Int) 0 rfl rfl false (decide_eq_false (by have := H0.out; omega)) _) ?_)))
    have h1 : OgRel w l (.int .i64 0) y1 := ⟨⟨0, by omega, rfl⟩, bel1⟩
    clear CG bel1 CA
    go_loopw [42] (fun i wr => OgRel w l i wr) (fun i _ => l.length - (intOf i).toNat)
    case atStart => exact h1
    case round =>
      clear h1
      obtain ⟨⟨k, hk, rfl⟩, bel⟩ := hrel
      by_cases hlt : k < l.length
      · obtain ⟨t, ht⟩ : ∃ t, l[k]? = some t := ⟨_, List.getElem?_eq_getElem hlt⟩
        have KT := Lib.hid (AllOk.get HS.out.ok ht); have HT := Lib.hid ht
        have RT := Lib.hid (at_range (HS.out.below bel) ht)
        have ik : (k : Int) < (l.length : Int) := by omega
        clear ht
        go_wp2_with (first
          | ((with_reducible refine at_slot 45 ?_); (refine arm_want (.pointer (some ⟨g, o + k * 65, none⟩)) 45 rfl (by kernel_rfl) (run_op_index fK _ _ rfl g o _ _ rfl .i64 _ rfl k rfl hlt _) ?_))
          | ((with_reducible refine at_slot 46 ?_); (refine arm_load (o := ⟨some 46, _, _, _, _, _⟩) rfl _ _ rfl g (o + k * 65) rfl (kcs t) (RT.out) (sz_key KT.out) ?_))
          | ((with_reducible refine at_slot 7 ?_); (refine arm_alloc (o := ⟨some 7, _, _, _, _, _⟩) rfl _ rfl (kcs zk) z_key ?_); intro X v101 Xe hv101 nv101)
          | ((with_reducible refine arm_store (o := ⟨none, _, _, _, _, _⟩) rfl _ _ _ rfl X 0 rfl (kcs t) rfl _ _ (hv101) (fitK KT.out) (kcs_one _) (sz_key KT.out) ?_); intro v102 hv102 ov102 sv102))
        have q0 := Xe.out
        have q1 := nv101.size
        have q2 := sv102.out
        have q3 := bel.size
        have lX : w.heap.size ≤ X := by omega
        have rX103 : Row v102 X 37 (kcs t) := (hv102.congr (allK KT.out))
        have bel103 : Below w.heap.size w v102 := (below_only (below_step bel (by omega) nv101.below) ov102 lX (by omega))
        clear q0 q1 q2 q3 bel Xe hv101 nv101 hv102 ov102 sv102
        have hc : decide ((0 : Int) < kcmp t u) = false := decide_eq_false (fun h => by have h1 := cmpN_pos.1 h; have h2 := HJ.out.all k t u hlt HT.out HU.out; omega)
        have CC := Lib.hid (fun w0 => compare_any t u w0 KT.out KU.out)
        have HC := Lib.hid hc
        clear hc
        change Hid (decide ((0 : Int) < kcmp t u) = false) at HC
        generalize kcmp t u = q at HC CC
        by_cases hkj : k < j
        · have HNE : Hid (t ≠ u) := Lib.hid fun e => by have := HJ.out.ahead k t u hkj HT.out HU.out; rw [e] at this; omega
          refine wp_region_held (S := fun w' => Below v102.heap.size v102 w') (by kernel_rfl) ?_
          change wpAnyH _ _ _ _ _ _ _ _ v102.drew
          have hS : Below v102.heap.size v102 v102.drew := (Below.refl _ _).drew
          generalize v102.drew = yz at hS ⊢
          refine h_take 0 (.agg (kcs t).toArray) rfl 47 rfl (by kernel_rfl) (by kernel_rfl) (by kernel_rfl) (by kernel_rfl) (fun _ _ _ h => h) (fun w' hC => run_op_load _ _ rfl X 0 rfl (kcs t) ((Has.refl _).range (rX103.old hC)) (sz_key KT.out)) hS ?_
          simp only [Act.put, List.setIfInBounds_toArray, List.set_cons_zero, List.set_cons_succ]
          refine h_take 1 (.slice (some ⟨g, o, none⟩) l.length pc) rfl 48 rfl (by kernel_rfl) (by kernel_rfl) (by kernel_rfl) (by kernel_rfl) (fun _ _ _ h => h) (fun w' _ => by kernel_rfl) hS ?_
          simp only [Act.put, List.setIfInBounds_toArray, List.set_cons_zero, List.set_cons_succ]
          refine h_take 2 (.int .i64 (j : Int)) rfl 49 rfl (by kernel_rfl) (by kernel_rfl) (by kernel_rfl) (by kernel_rfl) (fun _ _ _ h => h) (fun w' _ => by kernel_rfl) hS ?_
          simp only [Act.put, List.setIfInBounds_toArray, List.set_cons_zero, List.set_cons_succ]
          refine h_take 3 (.pointer (some ⟨g, o + j * 65, none⟩)) rfl 50 rfl (by kernel_rfl) (by kernel_rfl) (by kernel_rfl) (by kernel_rfl) (fun _ _ _ h => h) (fun w' _ => run_op_index fK _ _ rfl g o _ _ rfl .i64 _ rfl j rfl hjl w') hS ?_
          simp only [Act.put, List.setIfInBounds_toArray, List.set_cons_zero, List.set_cons_succ]
          refine h_take 4 (.agg (kcs u).toArray) rfl 51 rfl (by kernel_rfl) (by kernel_rfl) (by kernel_rfl) (by kernel_rfl) (fun _ _ _ h => h) (fun w' hC => run_op_load _ _ rfl g (o + j * 65) rfl (kcs u) (at_range (HS.out.below (below_step bel103 bel103.size hC)) HU.out) (sz_key KU.out)) hS ?_
          simp only [Act.put, List.setIfInBounds_toArray, List.set_cons_zero, List.set_cons_succ]
          refine h_one (i := 5) (by kernel_rfl) (o_call rfl 52 rfl (by kernel_rfl) (run_op_call 10 _ _ rfl #[.agg (kcs t).toArray, .agg (kcs u).toArray] (by simp only [List.map_toArray, List.map_cons, List.map_nil]; rfl) Tryd.func10 (by kernel_rfl) (by kernel_rfl) _) (CC.out _) ?_)
          rintro e yz1 ⟨rfl, hB⟩
          have hS1 : Below v102.heap.size v102 yz1 := below_step hS hS.size hB
          clear hB hS
          refine ⟨_, rfl, hS1, ?_⟩
          simp only [Act.put, List.setIfInBounds_toArray, List.set_cons_zero, List.set_cons_succ]
          refine h_take 6 (.bool false) rfl 53 rfl (by kernel_rfl) (by kernel_rfl) (by kernel_rfl) (by kernel_rfl) (fun _ _ _ h => h) (fun w' _ => cmp_gtr _ _ _ _ rfl .i64 q 0 rfl rfl false HC.out w') hS1 ?_
          simp only [Act.put, List.setIfInBounds_toArray, List.set_cons_zero, List.set_cons_succ]
          refine h_take 7 (.bool false) rfl 54 rfl (by kernel_rfl) (by kernel_rfl) (by kernel_rfl) (by kernel_rfl) (fun _ _ _ h => h) (fun w' _ => by kernel_rfl) hS1 ?_
          simp only [Act.put, List.setIfInBounds_toArray, List.set_cons_zero, List.set_cons_succ]
          refine h_take 8 (.int .i64 (k : Int)) rfl 55 rfl (by kernel_rfl) (by kernel_rfl) (by kernel_rfl) (by kernel_rfl) (fun _ _ _ h => h) (fun w' _ => by kernel_rfl) hS1 ?_
          simp only [Act.put, List.setIfInBounds_toArray, List.set_cons_zero, List.set_cons_succ]
          refine h_take 9 (.int .i64 (j : Int)) rfl 56 rfl (by kernel_rfl) (by kernel_rfl) (by kernel_rfl) (by kernel_rfl) (fun _ _ _ h => h) (fun w' _ => by kernel_rfl) hS1 ?_
          simp only [Act.put, List.setIfInBounds_toArray, List.set_cons_zero, List.set_cons_succ]
          refine h_take 10 (.bool true) rfl 57 rfl (by kernel_rfl) (by kernel_rfl) (by kernel_rfl) (by kernel_rfl) (fun _ _ _ h => h) (fun w' _ => cmp_lss _ _ _ _ rfl .i64 (k : Int) (j : Int) rfl rfl true (decide_eq_true (by omega)) w') hS1 ?_
          simp only [Act.put, List.setIfInBounds_toArray, List.set_cons_zero, List.set_cons_succ]
          refine h_take 11 (.bool true) rfl 58 rfl (by kernel_rfl) (by kernel_rfl) (by kernel_rfl) (by kernel_rfl) (fun _ _ _ h => h) (fun w' _ => by kernel_rfl) hS1 ?_
          simp only [Act.put, List.setIfInBounds_toArray, List.set_cons_zero, List.set_cons_succ]
          refine h_take 12 (.agg (kcs t).toArray) rfl 59 rfl (by kernel_rfl) (by kernel_rfl) (by kernel_rfl) (by kernel_rfl) (fun _ _ _ h => h) (fun w' hC => run_op_load _ _ rfl X 0 rfl (kcs t) ((Has.refl _).range (rX103.old hC)) (sz_key KT.out)) hS1 ?_
          simp only [Act.put, List.setIfInBounds_toArray, List.set_cons_zero, List.set_cons_succ]
          refine h_take 13 (.slice (some ⟨g, o, none⟩) l.length pc) rfl 60 rfl (by kernel_rfl) (by kernel_rfl) (by kernel_rfl) (by kernel_rfl) (fun _ _ _ h => h) (fun w' _ => by kernel_rfl) hS1 ?_
          simp only [Act.put, List.setIfInBounds_toArray, List.set_cons_zero, List.set_cons_succ]
          refine h_take 14 (.int .i64 (j : Int)) rfl 61 rfl (by kernel_rfl) (by kernel_rfl) (by kernel_rfl) (by kernel_rfl) (fun _ _ _ h => h) (fun w' _ => by kernel_rfl) hS1 ?_
          simp only [Act.put, List.setIfInBounds_toArray, List.set_cons_zero, List.set_cons_succ]
          refine h_take 15 (.pointer (some ⟨g, o + j * 65, none⟩)) rfl 62 rfl (by kernel_rfl) (by kernel_rfl) (by kernel_rfl) (by kernel_rfl) (fun _ _ _ h => h) (fun w' _ => run_op_index fK _ _ rfl g o _ _ rfl .i64 _ rfl j rfl hjl w') hS1 ?_
          simp only [Act.put, List.setIfInBounds_toArray, List.set_cons_zero, List.set_cons_succ]
          refine h_take 16 (.agg (kcs u).toArray) rfl 63 rfl (by kernel_rfl) (by kernel_rfl) (by kernel_rfl) (by kernel_rfl) (fun _ _ _ h => h) (fun w' hC => run_op_load _ _ rfl g (o + j * 65) rfl (kcs u) (at_range (HS.out.below (below_step bel103 bel103.size hC)) HU.out) (sz_key KU.out)) hS1 ?_
          simp only [Act.put, List.setIfInBounds_toArray, List.set_cons_zero, List.set_cons_succ]
          refine h_take 17 (.bool false) rfl 64 rfl (by kernel_rfl) (by kernel_rfl) (by kernel_rfl) (by kernel_rfl) (fun _ _ _ h => h) (fun w' _ => run_op_eqlK KT.out KU.out _ _ _ rfl rfl rfl false ⟨fun h => absurd h Bool.false_ne_true, fun h => absurd h (show ¬ t = u from HNE.out)⟩ w') hS1 ?_
          simp only [Act.put, List.setIfInBounds_toArray, List.set_cons_zero, List.set_cons_succ]
          refine h_take 18 (.bool false) rfl 65 rfl (by kernel_rfl) (by kernel_rfl) (by kernel_rfl) (by kernel_rfl) (fun _ _ _ h => h) (fun w' _ => by kernel_rfl) hS1 ?_
          simp only [Act.put, List.setIfInBounds_toArray, List.set_cons_zero, List.set_cons_succ]
          refine h_take 19 (.bool false) rfl 66 rfl (by kernel_rfl) (by kernel_rfl) (by kernel_rfl) (by kernel_rfl) (fun _ _ _ h => h) (fun w' _ => by kernel_rfl) hS1 ?_
          simp only [Act.put, List.setIfInBounds_toArray, List.set_cons_zero, List.set_cons_succ]
          refine wpAnyH_done (by kernel_rfl) ?_ _
          have belE := below_step bel103 bel103.size hS1
          clear bel103 hS1 rX103
          have hk40 : k < 40 := by have := HL.out; omega
          go_wp2_with fail
          try simp only [Act.put]
          go_roundw
          case rel => exact ⟨⟨k + 1, by omega, by go_num⟩, belE⟩
          case measure => simp [intOf]; omega
        · skip
          refine wp_region_held (S := fun w' => Below v102.heap.size v102 w') (by kernel_rfl) ?_
          change wpAnyH _ _ _ _ _ _ _ _ v102.drew
          have hS : Below v102.heap.size v102 v102.drew := (Below.refl _ _).drew
          generalize v102.drew = yz at hS ⊢
          refine h_take 0 (.agg (kcs t).toArray) rfl 47 rfl (by kernel_rfl) (by kernel_rfl) (by kernel_rfl) (by kernel_rfl) (fun _ _ _ h => h) (fun w' hC => run_op_load _ _ rfl X 0 rfl (kcs t) ((Has.refl _).range (rX103.old hC)) (sz_key KT.out)) hS ?_
          simp only [Act.put, List.setIfInBounds_toArray, List.set_cons_zero, List.set_cons_succ]
          refine h_take 1 (.slice (some ⟨g, o, none⟩) l.length pc) rfl 48 rfl (by kernel_rfl) (by kernel_rfl) (by kernel_rfl) (by kernel_rfl) (fun _ _ _ h => h) (fun w' _ => by kernel_rfl) hS ?_
          simp only [Act.put, List.setIfInBounds_toArray, List.set_cons_zero, List.set_cons_succ]
          refine h_take 2 (.int .i64 (j : Int)) rfl 49 rfl (by kernel_rfl) (by kernel_rfl) (by kernel_rfl) (by kernel_rfl) (fun _ _ _ h => h) (fun w' _ => by kernel_rfl) hS ?_
          simp only [Act.put, List.setIfInBounds_toArray, List.set_cons_zero, List.set_cons_succ]
          refine h_take 3 (.pointer (some ⟨g, o + j * 65, none⟩)) rfl 50 rfl (by kernel_rfl) (by kernel_rfl) (by kernel_rfl) (by kernel_rfl) (fun _ _ _ h => h) (fun w' _ => run_op_index fK _ _ rfl g o _ _ rfl .i64 _ rfl j rfl hjl w') hS ?_
          simp only [Act.put, List.setIfInBounds_toArray, List.set_cons_zero, List.set_cons_succ]
          refine h_take 4 (.agg (kcs u).toArray) rfl 51 rfl (by kernel_rfl) (by kernel_rfl) (by kernel_rfl) (by kernel_rfl) (fun _ _ _ h => h) (fun w' hC => run_op_load _ _ rfl g (o + j * 65) rfl (kcs u) (at_range (HS.out.below (below_step bel103 bel103.size hC)) HU.out) (sz_key KU.out)) hS ?_
          simp only [Act.put, List.setIfInBounds_toArray, List.set_cons_zero, List.set_cons_succ]
          refine h_one (i := 5) (by kernel_rfl) (o_call rfl 52 rfl (by kernel_rfl) (run_op_call 10 _ _ rfl #[.agg (kcs t).toArray, .agg (kcs u).toArray] (by simp only [List.map_toArray, List.map_cons, List.map_nil]; rfl) Tryd.func10 (by kernel_rfl) (by kernel_rfl) _) (CC.out _) ?_)
          rintro e yz1 ⟨rfl, hB⟩
          have hS1 : Below v102.heap.size v102 yz1 := below_step hS hS.size hB
          clear hB hS
          refine ⟨_, rfl, hS1, ?_⟩
          simp only [Act.put, List.setIfInBounds_toArray, List.set_cons_zero, List.set_cons_succ]
          refine h_take 6 (.bool false) rfl 53 rfl (by kernel_rfl) (by kernel_rfl) (by kernel_rfl) (by kernel_rfl) (fun _ _ _ h => h) (fun w' _ => cmp_gtr _ _ _ _ rfl .i64 q 0 rfl rfl false HC.out w') hS1 ?_
          simp only [Act.put, List.setIfInBounds_toArray, List.set_cons_zero, List.set_cons_succ]
          refine h_take 7 (.bool false) rfl 54 rfl (by kernel_rfl) (by kernel_rfl) (by kernel_rfl) (by kernel_rfl) (fun _ _ _ h => h) (fun w' _ => by kernel_rfl) hS1 ?_
          simp only [Act.put, List.setIfInBounds_toArray, List.set_cons_zero, List.set_cons_succ]
          refine h_take 8 (.int .i64 (k : Int)) rfl 55 rfl (by kernel_rfl) (by kernel_rfl) (by kernel_rfl) (by kernel_rfl) (fun _ _ _ h => h) (fun w' _ => by kernel_rfl) hS1 ?_
          simp only [Act.put, List.setIfInBounds_toArray, List.set_cons_zero, List.set_cons_succ]
          refine h_take 9 (.int .i64 (j : Int)) rfl 56 rfl (by kernel_rfl) (by kernel_rfl) (by kernel_rfl) (by kernel_rfl) (fun _ _ _ h => h) (fun w' _ => by kernel_rfl) hS1 ?_
          simp only [Act.put, List.setIfInBounds_toArray, List.set_cons_zero, List.set_cons_succ]
          refine h_take 10 (.bool false) rfl 57 rfl (by kernel_rfl) (by kernel_rfl) (by kernel_rfl) (by kernel_rfl) (fun _ _ _ h => h) (fun w' _ => cmp_lss _ _ _ _ rfl .i64 (k : Int) (j : Int) rfl rfl false (decide_eq_false (by omega)) w') hS1 ?_
          simp only [Act.put, List.setIfInBounds_toArray, List.set_cons_zero, List.set_cons_succ]
          refine h_take 11 (.bool false) rfl 58 rfl (by kernel_rfl) (by kernel_rfl) (by kernel_rfl) (by kernel_rfl) (fun _ _ _ h => h) (fun w' _ => by kernel_rfl) hS1 ?_
          simp only [Act.put, List.setIfInBounds_toArray, List.set_cons_zero, List.set_cons_succ]
          refine h_pass 12 rfl 59 rfl (by kernel_rfl) (by kernel_rfl) (by kernel_rfl) (by kernel_rfl) (fun _ _ _ h => h) hS1 ?_
          simp only [Act.put, List.setIfInBounds_toArray, List.set_cons_zero, List.set_cons_succ]
          refine h_pass 13 rfl 60 rfl (by kernel_rfl) (by kernel_rfl) (by kernel_rfl) (by kernel_rfl) (fun _ _ _ h => h) hS1 ?_
          simp only [Act.put, List.setIfInBounds_toArray, List.set_cons_zero, List.set_cons_succ]
          refine h_pass 14 rfl 61 rfl (by kernel_rfl) (by kernel_rfl) (by kernel_rfl) (by kernel_rfl) (fun _ _ _ h => h) hS1 ?_
          simp only [Act.put, List.setIfInBounds_toArray, List.set_cons_zero, List.set_cons_succ]
          refine h_pass 15 rfl 62 rfl (by kernel_rfl) (by kernel_rfl) (by kernel_rfl) (by kernel_rfl) (fun _ _ _ h => h) hS1 ?_
          simp only [Act.put, List.setIfInBounds_toArray, List.set_cons_zero, List.set_cons_succ]
          refine h_pass 16 rfl 63 rfl (by kernel_rfl) (by kernel_rfl) (by kernel_rfl) (by kernel_rfl) (fun _ _ _ h => h) hS1 ?_
          simp only [Act.put, List.setIfInBounds_toArray, List.set_cons_zero, List.set_cons_succ]
          refine h_pass 17 rfl 64 rfl (by kernel_rfl) (by kernel_rfl) (by kernel_rfl) (by kernel_rfl) (fun _ _ _ h => h) hS1 ?_
          simp only [Act.put, List.setIfInBounds_toArray, List.set_cons_zero, List.set_cons_succ]
          refine h_take 18 (.bool false) rfl 65 rfl (by kernel_rfl) (by kernel_rfl) (by kernel_rfl) (by kernel_rfl) (fun _ _ _ h => h) (fun w' _ => by kernel_rfl) hS1 ?_
          simp only [Act.put, List.setIfInBounds_toArray, List.set_cons_zero, List.set_cons_succ]
          refine h_take 19 (.bool false) rfl 66 rfl (by kernel_rfl) (by kernel_rfl) (by kernel_rfl) (by kernel_rfl) (fun _ _ _ h => h) (fun w' _ => by kernel_rfl) hS1 ?_
          simp only [Act.put, List.setIfInBounds_toArray, List.set_cons_zero, List.set_cons_succ]
          refine wpAnyH_done (by kernel_rfl) ?_ _
          have belE := below_step bel103 bel103.size hS1
          clear bel103 hS1 rX103
          have hk40 : k < 40 := by have := HL.out; omega
          go_wp2_with fail
          try simp only [Act.put]
          go_roundw
          case rel => exact ⟨⟨k + 1, by omega, by go_num⟩, belE⟩
          case measure => simp [intOf]; omega
      · obtain rfl : k = l.length := by omega
        have hm := HM.out; have hpc := HP.out
        have hdr : (l.drop m).length = l.length - m := List.length_drop
        have htk : (l.take m).length = m := by rw [List.length_take]; omega
        have HD := Lib.hid hdr; have HTK := Lib.hid htk
        clear hdr htk
        go_wp2_with fail
        refine wp_region_held (S := fun _ => True) (by kernel_rfl) ?_
        change wpAnyH _ _ _ _ _ _ _ _ wr.drew
        have belz : Below w.heap.size w wr.drew := bel.trans ((Below.refl _ _).drew)
        have at0 : At kK wr.drew (some ⟨g, o, none⟩) l := HS.out.below belz
        have hge : g < wr.drew.heap.size := Nat.lt_of_lt_of_le HGL.out belz.size
        clear bel
        generalize wr.drew = wz at at0 hge belz ⊢
        refine h_take 1 (.slice (some ⟨g, o, none⟩) l.length pc) rfl 69 rfl (by kernel_rfl) (by kernel_rfl) (by kernel_rfl) (by kernel_rfl) (fun _ _ _ h => h) (fun w' _ => by kernel_rfl) trivial ?_
        simp only [Act.put, List.setIfInBounds_toArray, List.set_cons_zero, List.set_cons_succ]
        refine h_take 2 (.int .i64 (m : Int)) rfl 70 rfl (by kernel_rfl) (by kernel_rfl) (by kernel_rfl) (by kernel_rfl) (fun _ _ _ h => h) (fun w' _ => by kernel_rfl) trivial ?_
        simp only [Act.put, List.setIfInBounds_toArray, List.set_cons_zero, List.set_cons_succ]
        refine h_take 3 (.slice (onN (some ⟨g, o, none⟩) m 65 pc) (l.length - m) (pc - m)) rfl 71 rfl (by kernel_rfl) (by kernel_rfl) (by kernel_rfl) (by kernel_rfl) (fun _ _ _ h => h) (fun w' _ => run_op_tail fK _ _ rfl (some ⟨g, o, none⟩) l.length pc rfl .i64 _ rfl m rfl hm w') trivial ?_
        simp only [Act.put, List.setIfInBounds_toArray, List.set_cons_zero, List.set_cons_succ]
        refine h_take 5 (.slice (some ⟨g, o, none⟩) l.length pc) rfl 73 rfl (by kernel_rfl) (by kernel_rfl) (by kernel_rfl) (by kernel_rfl) (fun _ _ _ h => h) (fun w' _ => by kernel_rfl) trivial ?_
        simp only [Act.put, List.setIfInBounds_toArray, List.set_cons_zero, List.set_cons_succ]
        refine h_take 6 (.int .i64 (m : Int)) rfl 74 rfl (by kernel_rfl) (by kernel_rfl) (by kernel_rfl) (by kernel_rfl) (fun _ _ _ h => h) (fun w' _ => by kernel_rfl) trivial ?_
        simp only [Act.put, List.setIfInBounds_toArray, List.set_cons_zero, List.set_cons_succ]
        refine h_take 7 (.slice (some ⟨g, o, none⟩) m pc) rfl 75 rfl (by kernel_rfl) (by kernel_rfl) (by kernel_rfl) (by kernel_rfl) (fun _ _ _ h => h) (fun w' _ => run_op_head fK _ _ rfl (some ⟨g, o, none⟩) l.length pc rfl .i64 _ rfl m rfl (by omega) w') trivial ?_
        simp only [Act.put, List.setIfInBounds_toArray, List.set_cons_zero, List.set_cons_succ]
        refine h_one (i := 0) (by kernel_rfl) (o_value _ rfl 68 rfl (by kernel_rfl) (run_op_lit fK [] allOk_nil (by simp) _ _ rfl rfl (by simp only [List.map_toArray, List.map_nil]; rfl)) ?_)
        have hN := new_alloc wz (.cells (kK.all []).toArray kK.t)
        have rL : Row (wz.alloc (.cells (kK.all []).toArray kK.t)) wz.heap.size kK.t (kK.all []) := heap_alloc_new _ _
        have own1 : Sl.Own kK (wz.alloc (.cells (kK.all []).toArray kK.t)) w.heap.size (some ⟨wz.heap.size, 0, none⟩) 0 [] := Sl.Own.row fK allOk_nil belz.size (by simp) rL
        generalize wz.alloc (.cells (kK.all []).toArray kK.t) = y1 at hN rL own1 ⊢
        have bel1 : Below w.heap.size w y1 := below_step belz belz.size hN.below
        have at1 : At kK y1 (some ⟨g, o, none⟩) l := at0.below hN.below
        have hg1 : g ≠ wz.heap.size := by omega
        clear hN rL belz at0 hge
        refine ⟨trivial, ?_⟩
        generalize wz.heap.size = L at own1 hg1 ⊢
        simp only [Act.put, List.setIfInBounds_toArray, List.set_cons_zero, List.set_cons_succ]
        refine h_one (i := 4) (by kernel_rfl) (o_appendQ rfl 72 rfl (by kernel_rfl) fK _ _ rfl w.heap.size (some ⟨L, 0, none⟩) 0 0 [] rfl rfl own1 (onN (some ⟨g, o, none⟩) m 65 pc) (l.length - m) (pc - m) (l.drop m) rfl HD.out.symm (at1.tail m hpc) (by have := HD.out; have := HL.out; simp only [List.length_nil]; omega) bel1.size ?_)
        intro p2 c2 y2 own2 hb2 hk2 hat2
        have bel2 : Below w.heap.size w y2 := bel1.trans hb2
        have at2 : At kK y2 (some ⟨g, o, none⟩) l := at1.block hb2.size fun g' o' e hg' => hk2.out g' hg' (fun e2 => hg1 (by have h1 : L = g' := Option.some.inj e2; have h2 : g = g' := congrArg Addr.block (Option.some.inj e); omega))
        refine ⟨trivial, ?_⟩
        simp only [Act.put, List.setIfInBounds_toArray, List.set_cons_zero, List.set_cons_succ]
        rw [List.nil_append] at own2 ⊢
        refine h_one (i := 8) (by kernel_rfl) (o_appendQ rfl 76 rfl (by kernel_rfl) fK _ _ rfl w.heap.size p2 (l.drop m).length c2 (l.drop m) rfl rfl own2 (some ⟨g, o, none⟩) m pc (l.take m) rfl HTK.out.symm (at2.take m) (by have := HD.out; have := HTK.out; have := HL.out; omega) bel2.size ?_)
        intro p3 c3 y3 own3 hb3 hk3 hat3
        have bel3 : Below w.heap.size w y3 := bel2.trans hb3
        clear own1 own2 hb2 hk2 hat2 hb3 hk3 hat3 bel1 bel2 at1 at2
        refine ⟨trivial, ?_⟩
        simp only [Act.put, List.setIfInBounds_toArray, List.set_cons_zero, List.set_cons_succ]
        have HR : Hid ((l.drop m ++ l.take m).length = l.length) := Lib.hid (by have := HD.out; have := HTK.out; rw [List.length_append]; omega)
        obtain ⟨j2, hz2, hj2⟩ := topF_has (l := l.drop m ++ l.take m) (by have := HR.out; have := H0.out; omega)
        have CG2 : Hid (∀ pp cc w0, At kK w0 pp (l.drop m ++ l.take m) → Calls Tryd.prog 14 #[.slice pp (l.drop m ++ l.take m).length cc] w0 fun e w' => e = .returned (.int .i64 (j2 : Int)) ∧ Below w0.heap.size w0 w') := Lib.hid fun pp cc w0 h => by
          have c := greatest_any (l.drop m ++ l.take m) pp cc w0 h (by have := HR.out; have := HL.out; omega)
          rw [hz2] at c
          exact c
        have HU2 : Hid (∀ u2, (l.drop m ++ l.take m)[j2]? = some u2 → u2 = u) := Lib.hid fun u2 h => turned HS.out.ok HJ.out HU.out hj2 h
        have hlt2 := hj2.lt
        clear hz2 hj2
        generalize l.drop m ++ l.take m = r at own3 HR CG2 HU2 hlt2 ⊢
        refine h_take 9 (.slice p3 r.length c3) rfl 8 rfl (by kernel_rfl) (by kernel_rfl) (by kernel_rfl) (by kernel_rfl) (fun _ _ _ h => h) (fun w' _ => by kernel_rfl) trivial ?_
        simp only [Act.put, List.setIfInBounds_toArray, List.set_cons_zero, List.set_cons_succ]
        refine wpAnyH_done (by kernel_rfl) ?_ _
        go_wp2_with fail
        have hat3 := own3.at fK
        obtain ⟨u2, g3, o3, hu2, ku2, hp3, hg3, hr3⟩ := hat3.get hlt2
        subst hp3
        obtain rfl := HU2.out u2 hu2
        refine (CG2.out _ c3 _ hat3).mono ?_
        rintro e y4 ⟨rfl, hB⟩
        have R3 := Lib.hid (range_block hr3 (hB.block g3 hg3))
        have bel4 : Below w.heap.size w y4 := below_step bel3 bel3.size hB
        clear hB hr3 hat3 own3 bel3 hg3 hu2 ku2
        go_wp2_with fail
        have l3 := Lib.hid (range_lt R3.out (fun e => by have := kcs_len KU.out; rw [e] at this; cases this))
        refine wp_region_quiet (C := fun w' => Below y4.heap.size y4 w') (by kernel_rfl) (by kernel_rfl) ((Below.refl _ _).drew) ?_
        rw [List.toList_toArray]
        refine q_value 79 rfl (.int .i64 (j2 : Int)) (by kernel_rfl) (fun w' _ => by kernel_rfl) ?_
        simp only [Act.put, List.setIfInBounds_toArray, List.set_cons_zero, List.set_cons_succ]
        refine q_value 80 rfl (.bool true) (by kernel_rfl) (fun w' _ => cmp_geq _ _ _ _ rfl .i64 (j2 : Int) 0 rfl rfl true (decide_eq_true (by omega)) w') ?_
        simp only [Act.put, List.setIfInBounds_toArray, List.set_cons_zero, List.set_cons_succ]
        refine q_value 81 rfl (.bool true) (by kernel_rfl) (fun w' _ => by kernel_rfl) ?_
        simp only [Act.put, List.setIfInBounds_toArray, List.set_cons_zero, List.set_cons_succ]
        refine q_value 82 rfl (.int .i64 (j2 : Int)) (by kernel_rfl) (fun w' _ => by kernel_rfl) ?_
        simp only [Act.put, List.setIfInBounds_toArray, List.set_cons_zero, List.set_cons_succ]
        refine q_value 83 rfl (.slice (some ⟨g3, o3, none⟩) r.length c3) (by kernel_rfl) (fun w' _ => by kernel_rfl) ?_
        simp only [Act.put, List.setIfInBounds_toArray, List.set_cons_zero, List.set_cons_succ]
        refine q_value 84 rfl (.int .i64 (r.length : Int)) (by kernel_rfl) (fun w' _ => run_op_lenQ _ _ _ rfl fK.und (some ⟨g3, o3, none⟩) r.length c3 rfl w') ?_
        simp only [Act.put, List.setIfInBounds_toArray, List.set_cons_zero, List.set_cons_succ]
        refine q_value 85 rfl (.bool true) (by kernel_rfl) (fun w' _ => cmp_lss _ _ _ _ rfl .i64 (j2 : Int) (r.length : Int) rfl rfl true (decide_eq_true (by omega)) w') ?_
        simp only [Act.put, List.setIfInBounds_toArray, List.set_cons_zero, List.set_cons_succ]
        refine q_value 86 rfl (.bool true) (by kernel_rfl) (fun w' _ => by kernel_rfl) ?_
        simp only [Act.put, List.setIfInBounds_toArray, List.set_cons_zero, List.set_cons_succ]
        refine q_value 87 rfl (.bool true) (by kernel_rfl) (fun w' _ => by kernel_rfl) ?_
        simp only [Act.put, List.setIfInBounds_toArray, List.set_cons_zero, List.set_cons_succ]
        refine q_value 88 rfl (.slice (some ⟨g3, o3, none⟩) r.length c3) (by kernel_rfl) (fun w' _ => by kernel_rfl) ?_
        simp only [Act.put, List.setIfInBounds_toArray, List.set_cons_zero, List.set_cons_succ]
        refine q_value 89 rfl (.int .i64 (j2 : Int)) (by kernel_rfl) (fun w' _ => by kernel_rfl) ?_
        simp only [Act.put, List.setIfInBounds_toArray, List.set_cons_zero, List.set_cons_succ]
        refine q_value 90 rfl (.pointer (some ⟨g3, o3 + j2 * 65, none⟩)) (by kernel_rfl) (fun w' _ => run_op_index fK _ _ rfl g3 o3 _ _ rfl .i64 _ rfl j2 rfl hlt2 w') ?_
        simp only [Act.put, List.setIfInBounds_toArray, List.set_cons_zero, List.set_cons_succ]
        refine q_value 91 rfl (.agg (kcs u2).toArray) (by kernel_rfl) (fun w' hC => run_op_load _ _ rfl g3 (o3 + j2 * 65) rfl (kcs u2) (range_block R3.out (hC.block g3 l3.out)) (sz_key KU.out)) ?_
        simp only [Act.put, List.setIfInBounds_toArray, List.set_cons_zero, List.set_cons_succ]
        refine q_value 92 rfl (.slice (some ⟨g, o, none⟩) l.length pc) (by kernel_rfl) (fun w' _ => by kernel_rfl) ?_
        simp only [Act.put, List.setIfInBounds_toArray, List.set_cons_zero, List.set_cons_succ]
        refine q_value 93 rfl (.int .i64 (j : Int)) (by kernel_rfl) (fun w' _ => by kernel_rfl) ?_
        simp only [Act.put, List.setIfInBounds_toArray, List.set_cons_zero, List.set_cons_succ]
        refine q_value 94 rfl (.pointer (some ⟨g, o + j * 65, none⟩)) (by kernel_rfl) (fun w' _ => run_op_index fK _ _ rfl g o _ _ rfl .i64 _ rfl j rfl hjl w') ?_
        simp only [Act.put, List.setIfInBounds_toArray, List.set_cons_zero, List.set_cons_succ]
        refine q_value 95 rfl (.agg (kcs u2).toArray) (by kernel_rfl) (fun w' hC => run_op_load _ _ rfl g (o + j * 65) rfl (kcs u2) (at_range (HS.out.below (below_step bel4 bel4.size hC)) HU.out) (sz_key KU.out)) ?_
        simp only [Act.put, List.setIfInBounds_toArray, List.set_cons_zero, List.set_cons_succ]
        refine q_value 96 rfl (.bool true) (by kernel_rfl) (fun w' _ => run_op_eqlK KU.out KU.out _ _ _ rfl rfl rfl true (by simp) w') ?_
        simp only [Act.put, List.setIfInBounds_toArray, List.set_cons_zero, List.set_cons_succ]
        refine q_value 97 rfl (.bool true) (by kernel_rfl) (fun w' _ => by kernel_rfl) ?_
        simp only [Act.put, List.setIfInBounds_toArray, List.set_cons_zero, List.set_cons_succ]
        refine q_value 4 rfl (.bool true) (by kernel_rfl) (fun w' _ => by kernel_rfl) ?_
        simp only [Act.put, List.setIfInBounds_toArray, List.set_cons_zero, List.set_cons_succ]
        refine wpQuiet_nil ?_
        intro w2 hC
        have belE := below_step bel4 bel4.size hC
        go_wp2_with fail
        go_ret
        exact ⟨rfl, belE⟩
end Go.Proofs.YtffdmfclakgocaaDoor.Od
