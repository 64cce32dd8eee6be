/-
  The walk of layer 16's statement ProofMoved, out of the contracts: it returns true, and changes nothing that was there. Over this seat's translation.
-/
import Derived.Test.YtaihhbiocolhcaaDoorPrfAwake
namespace Go.Proofs.YtaihhbiocolhcaaDoor.Pf
open Go.ChangeShapes Go.WideShapes Go.ChangeAt Go.RowKit Go.Proofs.YtaihhbiocolhcaaDoor.Mem Go.Proofs.YtaihhbiocolhcaaDoor.Bt Go.Proofs.YtaihhbiocolhcaaDoor.Wi Go.Proofs.YtaihhbiocolhcaaDoor.Sha Go.Proofs.YtaihhbiocolhcaaDoor.Ac Go.Proofs.YtaihhbiocolhcaaDoor.Tr
open Go.Proofs.YtaihhbiocolhcaaDoor.Tg (bytesOf bytesOf_length bytesOf_lt bytesOf_inj Rd Rd.below Parts parts_one arm_one tagD tagD_len tagOf_any refTag_any total image image_inj image_length)
open Go.Proofs.YtaihhbiocolhcaaDoor.Ep (H32 zh zh_ok Has h_len szH zH fitH allH came_at one_app)
set_option linter.unusedVariables false
set_option linter.unusedSimpArgs false

section
variable {P : Program} {ops : Array Oper} {Q : Exit → Act → World → Prop} {md : Region.Mode} {S : World → Prop} {a : Act} {w : World} {fuel : Nat} {listed : Array Bool}
/-- Two that only read may come up in either order. -/
theorem h_pair {i j : Nat} {oi oj : Oper} {vi vj : Value} (hi : ops[i]? = some oi) (hj : ops[j]? = some oj) (hr : Region.ready md ops listed = [i, j])
    (hri : Region.ready md ops (listed.setIfInBounds i true) = [j]) (hrj : Region.ready md ops (listed.setIfInBounds j true) = [i]) (hij : i ≠ j) (gi : oi.guard = none) (gj : oj.guard = none)
    (di dj : Tmp) (hdi : oi.dst = some di) (hdj : oj.dst = some dj) (hap : oi.apart ops oj = true) (hs : Region.noSelect ops = true) (ri : (execOp a.eval oi).run P w = .ok (.value vi) w) (rj : (execOp a.eval oj).run P w = .ok (.value vj) w) (hS : S w)
    (h : wpAnyH P md ops Q S fuel ((listed.setIfInBounds i true).setIfInBounds j true) ((a.put (some di) vi).put (some dj) vj) w) : wpAnyH P md ops Q S (fuel + 1 + 1) listed a w := by
  rw [← hdi, ← hdj] at h
  obtain ⟨h1, h2, h3⟩ := Oper.apart_spec hap
  have hsi : ∀ cs b, oi.op ≠ .select cs b := fun cs b => Region.noSelect_spec hs i oi cs b hi
  have hsj : ∀ cs b, oj.op ≠ .select cs b := fun cs b => Region.noSelect_spec hs j oj cs b hj
  refine wpAnyH_all hr (by simp) (fun k hk => ?_)
  have hk' : k = i ∨ k = j := by simpa using hk
  rcases hk' with rfl | rfl
  · refine wpOp_value hi gi ri ⟨hS, h_one hri (wpOp_value hj gj ?_ ⟨hS, h⟩)⟩
    rw [execOp_put oj hsj a oi.dst vi h1]; exact rj
  · refine wpOp_value hj gj rj ⟨hS, h_one hrj (wpOp_value (v := vi) (w' := w) hi gi ?_ ⟨hS, ?_⟩)⟩
    · rw [execOp_put oi hsi a oj.dst vj h3]; exact ri
    · rw [Array.setIfInBounds_comm _ _ (Ne.symm hij), Act.put_comm a vj vi (fun d hd he => h2 d he hd)]
      exact h
/-- Two new variables, in either order. -/
theorem h_allocs {i j : Nat} {oi oj : Oper} (hi : ops[i]? = some oi) (hj : ops[j]? = some oj) (hr : Region.ready md ops listed = [i, j])
    (hri : Region.ready md ops (listed.setIfInBounds i true) = [j]) (hrj : Region.ready md ops (listed.setIfInBounds j true) = [i]) (hij : i ≠ j) (gi : oi.guard = none) (gj : oj.guard = none)
    (di dj : Tmp) (hdi : oi.dst = some di) (hdj : oj.dst = some dj) (hap : oi.apart ops oj = true) (t u : TypeId) (hoi : oi.op = .alloc t) (hoj : oj.op = .alloc u) (zs ys : List Value) (hz : Zero P t zs) (hy : Zero P u ys)
    (hS : ∀ w', Below w.heap.size w w' → S w')
    (h : ∀ b c w2, b ≠ c → w.heap.size ≤ b → w.heap.size ≤ c → Row w2 b t zs → Row w2 c u ys → Below w.heap.size w w2 → wpAnyH P md ops Q S fuel ((listed.setIfInBounds i true).setIfInBounds j true) ((a.put (some di) (.pointer (some ⟨b, 0, none⟩))).put (some dj) (.pointer (some ⟨c, 0, none⟩))) w2) : wpAnyH P md ops Q S (fuel + 1 + 1) listed a w := by
  rw [← hdi, ← hdj] at h
  obtain ⟨h1, h2, h3⟩ := Oper.apart_spec hap
  have n1 : ∀ o : Obj, Below w.heap.size w (w.alloc o) := fun o => (Below.refl _ _).alloc (Nat.le_refl _) _
  refine wpAnyH_all hr (by simp) (fun k hk => ?_)
  have hk' : k = i ∨ k = j := by simpa using hk
  rcases hk' with rfl | rfl
  · refine wpOp_value hi gi (run_op_alloc t hoi zs hz) ⟨hS _ (n1 _), h_one hri (wpOp_value hj gj (run_op_alloc u hoj ys hy) ?_)⟩
    have m := new_alloc w (.cells zs.toArray t)
    have m2 := new_alloc (w.alloc (.cells zs.toArray t)) (.cells ys.toArray u)
    have b2 := below_step m.below m.below.size m2.below
    refine ⟨hS _ b2, h _ _ _ (by have := m.size; omega) (Nat.le_refl _) m.below.size ((show Row (w.alloc (.cells zs.toArray t)) w.heap.size t zs from heap_alloc_new _ _).old m2.below) (heap_alloc_new _ _) b2⟩
  · refine wpOp_value hj gj (run_op_alloc u hoj ys hy) ⟨hS _ (n1 _), h_one hrj (wpOp_value hi gi (run_op_alloc t hoi zs hz) ?_)⟩
    have m := new_alloc w (.cells ys.toArray u)
    have m2 := new_alloc (w.alloc (.cells ys.toArray u)) (.cells zs.toArray t)
    have b2 := below_step m.below m.below.size m2.below
    refine ⟨hS _ b2, ?_⟩
    rw [Array.setIfInBounds_comm _ _ (Ne.symm hij), Act.put_comm a _ _ (fun d hd he => h2 d he hd)]
    exact h _ _ _ (by have := m.size; omega) m.below.size (Nat.le_refl _) (heap_alloc_new _ _) ((show Row (w.alloc (.cells ys.toArray u)) w.heap.size u ys from heap_alloc_new _ _).old m2.below) b2
end
theorem sz_u8 : (Tryd.prog.info? 5).map (·.size) = some 1 := by kernel_rfl
/-! ### One byte of a path is another one -/
theorem dg_cell {L : List (List Nat)} (h : P4 L) {i j : Nat} (hi : i < 4) (hj : j < 32) : (dgC L)[i * 32 + j]? = some (.int .u8 (((L.getD i []).getD j 0 : Nat) : Int)) := by
  have hc := (path_has h.ok (h.get hi)).chunk (h_len (h.at hi))
  have e : ((dgC L).drop (32 * i) |>.take 32)[j]? = (u8s (L.getD i []))[j]? := by
    show (chunk (dgC L) (32 * i) 32)[j]? = _
    rw [hc]
  rw [List.getElem?_take_of_lt hj, List.getElem?_drop, u8s_get (by rw [(h.at hi).len]; exact hj)] at e
  rw [Nat.mul_comm i 32]
  exact e
def movL (L : List (List Nat)) (i j c : Nat) : List (List Nat) := L.set i ((L.getD i []).set j c)
theorem movL_p4 {L : List (List Nat)} (h : P4 L) {i j c : Nat} (hi : i < 4) (hc : c < 256) : P4 (movL L i j c) :=
  ⟨all_set h.ok ⟨by rw [List.length_set]; exact (h.at hi).len, fun x hx => by
    rcases List.mem_or_eq_of_mem_set hx with g | rfl
    · exact (h.at hi).lt x g
    · exact hc⟩ i, by unfold movL; rw [List.length_set]; exact h.len⟩
theorem movL_ne {L : List (List Nat)} (h : P4 L) {i j c : Nat} (hi : i < 4) (hj : j < 32) (hx : ¬ (L.getD i []).getD j 0 = c) : L.getD i [] ≠ (movL L i j c).getD i [] := fun e => hx (by
  have h1 : (movL L i j c).getD i [] = (L.getD i []).set j c := by
    unfold movL
    rw [List.getD_eq_getElem?_getD, List.getElem?_set_self (by rw [h.len]; exact hi)]
    rfl
  rw [h1] at e
  have : (L.getD i []).getD j 0 = ((L.getD i []).set j c).getD j 0 := congrArg (fun l : List Nat => l.getD j 0) e
  rw [this, List.getD_eq_getElem?_getD, List.getElem?_set_self (by rw [(h.at hi).len]; exact hj)]
  rfl)
theorem mov_set {L : List (List Nat)} (h : P4 L) {i j c : Nat} (hi : i < 4) (hj : j < 32) (hc : c < 256) : (dgC L).set (i * 32 + j) (.int .u8 ((c : Nat) : Int)) = dgC (movL L i j c) := by
  apply List.ext_getElem?
  intro n
  have e1 : (dgC L).length = 128 := dg4 h.ok h.len
  have e2 : (dgC (movL L i j c)).length = 128 := dg4 (movL_p4 h hi hc).ok (movL_p4 h hi hc).len
  by_cases hn : n < 128
  · have hd : n = n / 32 * 32 + n % 32 := by omega
    have e3 : (dgC (movL L i j c))[n]? = some (.int .u8 ((((movL L i j c).getD (n / 32) []).getD (n % 32) 0 : Nat) : Int)) := by
      rw [hd]
      have := dg_cell (movL_p4 (j := j) h hi hc) (i := n / 32) (j := n % 32) (by omega) (by omega)
      rw [← hd] at this ⊢
      exact this
    rw [e3]
    by_cases e : i * 32 + j = n
    · rw [e, List.getElem?_set_self (by omega)]
      have hq : n / 32 = i := by omega
      have hr : n % 32 = j := by omega
      rw [hq, hr]
      congr 3
      unfold movL
      rw [List.getD_eq_getElem?_getD (l := L.set i _), List.getElem?_set_self (by rw [h.len]; exact hi), Option.getD_some, List.getD_eq_getElem?_getD, List.getElem?_set_self (by rw [(h.at hi).len]; exact hj)]
      rfl
    · rw [List.getElem?_set_ne e]
      have e4 : (dgC L)[n]? = some (.int .u8 (((L.getD (n / 32) []).getD (n % 32) 0 : Nat) : Int)) := by
        have := dg_cell h (i := n / 32) (j := n % 32) (by omega) (by omega)
        rw [← hd] at this
        exact this
      rw [e4]
      congr 3
      unfold movL
      by_cases hq : i = n / 32
      · subst hq
        rw [List.getD_eq_getElem?_getD (l := L.set _ _), List.getElem?_set_self (by rw [h.len]; exact hi), Option.getD_some, List.getD_eq_getElem?_getD (l := (L.getD (n / 32) []).set j c), List.getElem?_set_ne (by omega), List.getD_eq_getElem?_getD (l := L.getD (n / 32) [])]
      · rw [List.getD_eq_getElem?_getD (l := L.set i _), List.getElem?_set_ne hq, ← List.getD_eq_getElem?_getD]
  · rw [List.getElem?_eq_none (by rw [List.length_set]; omega), List.getElem?_eq_none (by omega)]
structure MvRel (w : World) (Y Z D E q : Nat) (L M : List (List Nat)) (leaf : List Nat) (i : Value) (wr : World) : Prop where
  ex : ∃ k : Nat, k ≤ 4 ∧ i = .int .i64 (k : Int) ∧ Row wr D 23 (u8s (leadK q L leaf k)) ∧ Row wr E 23 (u8s (leadK q M leaf k)) ∧ (∀ j, j < k → ¬ (leadK q L leaf (j + 1) = leadK q M leaf (j + 1) ∧ (leadK q L leaf j ≠ leadK q M leaf j ∨ L.getD j [] ≠ M.getD j [])))
  ry : Row wr Y 29 (dgC L)
  rz : Row wr Z 29 (dgC M)
  bel : Below w.heap.size w wr
set_option maxHeartbeats 4000000 in
set_option maxRecDepth 100000 in
theorem proofMoved_any (leaf : List Nat) (p : Int) (L : List (List Nat)) (t b : Int) (c : Nat) (w : World) (kl : H32 leaf) (h4 : P4 L) (hc : c < 256) (hk : w.rangeAt 1 0 (u32s ks)) :
    Calls Tryd.prog 6 #[.agg (u8s leaf).toArray, .int .i64 p, .agg (dgC L).toArray, .int .i64 t, .int .i64 b, .int .u8 (c : Int)] w fun e w' => e = .returned (.bool true) ∧ Below w.heap.size w w' := by
  have hk1 : 1 < w.heap.size := range_lt hk (by simp [u32s, ks])
  have HKW : Hid (∀ w', Below w.heap.size w w' → w'.rangeAt 1 0 (u32s ks)) := Lib.hid fun w' hb => range_block hk (hb.block _ hk1)
  have CA := Lib.hid (fun w0 h => awake16_any w0 h)
  have H4 := Lib.hid h4; have KF := Lib.hid kl; have HC := Lib.hid hc
  have SP := Lib.hid (sz_path h4.ok h4.len); have FP := Lib.hid (fitP h4.ok h4.len); have AP := Lib.hid (allP h4.ok h4.len)
  clear hk hk1 h4 kl hc
  by_cases h1 : t < 0
  · have d1 : decide (t < (0 : Int)) = true := decide_eq_true h1
    clear h1
    go_enter Tryd.func6, Tryd.ntmps6
    go_wp2_with (first
      | ((with_reducible refine at_slot 6 ?_); (refine arm_box (o := ⟨some 6, _, _, _, _, _⟩) rfl _ _ rfl (u8s leaf) rfl ?_); intro X v1 Xe hv1 nv1; try simp only [Act.put, List.setIfInBounds_toArray, List.set_cons_zero, List.set_cons_succ])
      | ((with_reducible refine at_slot 8 ?_); (refine arm_box (o := ⟨some 8, _, _, _, _, _⟩) rfl _ _ rfl (dgC L) rfl ?_); intro Y v2 Ye hv2 nv2; try simp only [Act.put, List.setIfInBounds_toArray, List.set_cons_zero, List.set_cons_succ]))
    have hbv1 := nv1.below
    have rrv1 : Row v1 X 23 (u8s leaf) := hv1
    have hbv2 := nv2.below
    have rrv2 : Row v2 Y 29 (dgC L) := hv2
    have geX : w.heap.size ≤ X := by have := Xe.out; omega
    clear hv1 nv1 Xe
    have bel_3 : Below w.heap.size w v1 := hbv1
    clear hbv1
    have geY : w.heap.size ≤ Y := by have := Ye.out; have := bel_3.size; omega
    have ltXY : X < Y := by have := Ye.out; have := rrv1.lt; omega
    clear hv2 nv2 Ye
    have X_4 : Row v2 X 23 (u8s leaf) := rrv1.old hbv2
    have bel_4 : Below w.heap.size w v2 := below_step bel_3 bel_3.size hbv2
    clear rrv1 bel_3 hbv2
    refine (CA.out _ (HKW.out _ bel_4)).mono ?_
    rintro e y5 ⟨rfl, hB⟩
    have X_6 : Row y5 X 23 (u8s leaf) := X_4.old hB
    have Y_6 : Row y5 Y 29 (dgC L) := rrv2.old hB
    have bel_6 : Below w.heap.size w y5 := below_step bel_4 bel_4.size hB
    clear X_4 rrv2 bel_4 hB
    go_wp2_with fail
    go_ret
    exact ⟨rfl, bel_6⟩
  · have d1 : decide (t < (0 : Int)) = false := decide_eq_false h1
    by_cases h2 : 4 ≤ t
    · have d2 : decide ((4 : Int) ≤ t) = true := decide_eq_true h2
      clear h1 h2
      go_enter Tryd.func6, Tryd.ntmps6
      go_wp2_with (first
        | ((with_reducible refine at_slot 6 ?_); (refine arm_box (o := ⟨some 6, _, _, _, _, _⟩) rfl _ _ rfl (u8s leaf) rfl ?_); intro X v1 Xe hv1 nv1; try simp only [Act.put, List.setIfInBounds_toArray, List.set_cons_zero, List.set_cons_succ])
        | ((with_reducible refine at_slot 8 ?_); (refine arm_box (o := ⟨some 8, _, _, _, _, _⟩) rfl _ _ rfl (dgC L) rfl ?_); intro Y v2 Ye hv2 nv2; try simp only [Act.put, List.setIfInBounds_toArray, List.set_cons_zero, List.set_cons_succ]))
      have hbv1 := nv1.below
      have rrv1 : Row v1 X 23 (u8s leaf) := hv1
      have hbv2 := nv2.below
      have rrv2 : Row v2 Y 29 (dgC L) := hv2
      have geX : w.heap.size ≤ X := by have := Xe.out; omega
      clear hv1 nv1 Xe
      have bel_3 : Below w.heap.size w v1 := hbv1
      clear hbv1
      have geY : w.heap.size ≤ Y := by have := Ye.out; have := bel_3.size; omega
      have ltXY : X < Y := by have := Ye.out; have := rrv1.lt; omega
      clear hv2 nv2 Ye
      have X_4 : Row v2 X 23 (u8s leaf) := rrv1.old hbv2
      have bel_4 : Below w.heap.size w v2 := below_step bel_3 bel_3.size hbv2
      clear rrv1 bel_3 hbv2
      refine (CA.out _ (HKW.out _ bel_4)).mono ?_
      rintro e y5 ⟨rfl, hB⟩
      have X_6 : Row y5 X 23 (u8s leaf) := X_4.old hB
      have Y_6 : Row y5 Y 29 (dgC L) := rrv2.old hB
      have bel_6 : Below w.heap.size w y5 := below_step bel_4 bel_4.size hB
      clear X_4 rrv2 bel_4 hB
      go_wp2_with fail
      go_ret
      exact ⟨rfl, bel_6⟩
    · have d2 : decide ((4 : Int) ≤ t) = false := decide_eq_false h2
      by_cases h3 : b < 0
      · have d3 : decide (b < (0 : Int)) = true := decide_eq_true h3
        clear h1 h2 h3
        go_enter Tryd.func6, Tryd.ntmps6
        go_wp2_with (first
          | ((with_reducible refine at_slot 6 ?_); (refine arm_box (o := ⟨some 6, _, _, _, _, _⟩) rfl _ _ rfl (u8s leaf) rfl ?_); intro X v1 Xe hv1 nv1; try simp only [Act.put, List.setIfInBounds_toArray, List.set_cons_zero, List.set_cons_succ])
          | ((with_reducible refine at_slot 8 ?_); (refine arm_box (o := ⟨some 8, _, _, _, _, _⟩) rfl _ _ rfl (dgC L) rfl ?_); intro Y v2 Ye hv2 nv2; try simp only [Act.put, List.setIfInBounds_toArray, List.set_cons_zero, List.set_cons_succ]))
        have hbv1 := nv1.below
        have rrv1 : Row v1 X 23 (u8s leaf) := hv1
        have hbv2 := nv2.below
        have rrv2 : Row v2 Y 29 (dgC L) := hv2
        have geX : w.heap.size ≤ X := by have := Xe.out; omega
        clear hv1 nv1 Xe
        have bel_3 : Below w.heap.size w v1 := hbv1
        clear hbv1
        have geY : w.heap.size ≤ Y := by have := Ye.out; have := bel_3.size; omega
        have ltXY : X < Y := by have := Ye.out; have := rrv1.lt; omega
        clear hv2 nv2 Ye
        have X_4 : Row v2 X 23 (u8s leaf) := rrv1.old hbv2
        have bel_4 : Below w.heap.size w v2 := below_step bel_3 bel_3.size hbv2
        clear rrv1 bel_3 hbv2
        refine (CA.out _ (HKW.out _ bel_4)).mono ?_
        rintro e y5 ⟨rfl, hB⟩
        have X_6 : Row y5 X 23 (u8s leaf) := X_4.old hB
        have Y_6 : Row y5 Y 29 (dgC L) := rrv2.old hB
        have bel_6 : Below w.heap.size w y5 := below_step bel_4 bel_4.size hB
        clear X_4 rrv2 bel_4 hB
        go_wp2_with fail
        go_ret
        exact ⟨rfl, bel_6⟩
      · have d3 : decide (b < (0 : Int)) = false := decide_eq_false h3
        by_cases h5 : 32 ≤ b
        · have d4 : decide ((32 : Int) ≤ b) = true := decide_eq_true h5
          clear h1 h2 h3 h5
          go_enter Tryd.func6, Tryd.ntmps6
          go_wp2_with (first
            | ((with_reducible refine at_slot 6 ?_); (refine arm_box (o := ⟨some 6, _, _, _, _, _⟩) rfl _ _ rfl (u8s leaf) rfl ?_); intro X v1 Xe hv1 nv1; try simp only [Act.put, List.setIfInBounds_toArray, List.set_cons_zero, List.set_cons_succ])
            | ((with_reducible refine at_slot 8 ?_); (refine arm_box (o := ⟨some 8, _, _, _, _, _⟩) rfl _ _ rfl (dgC L) rfl ?_); intro Y v2 Ye hv2 nv2; try simp only [Act.put, List.setIfInBounds_toArray, List.set_cons_zero, List.set_cons_succ]))
          have hbv1 := nv1.below
          have rrv1 : Row v1 X 23 (u8s leaf) := hv1
          have hbv2 := nv2.below
          have rrv2 : Row v2 Y 29 (dgC L) := hv2
          have geX : w.heap.size ≤ X := by have := Xe.out; omega
          clear hv1 nv1 Xe
          have bel_3 : Below w.heap.size w v1 := hbv1
          clear hbv1
          have geY : w.heap.size ≤ Y := by have := Ye.out; have := bel_3.size; omega
          have ltXY : X < Y := by have := Ye.out; have := rrv1.lt; omega
          clear hv2 nv2 Ye
          have X_4 : Row v2 X 23 (u8s leaf) := rrv1.old hbv2
          have bel_4 : Below w.heap.size w v2 := below_step bel_3 bel_3.size hbv2
          clear rrv1 bel_3 hbv2
          refine (CA.out _ (HKW.out _ bel_4)).mono ?_
          rintro e y5 ⟨rfl, hB⟩
          have X_6 : Row y5 X 23 (u8s leaf) := X_4.old hB
          have Y_6 : Row y5 Y 29 (dgC L) := rrv2.old hB
          have bel_6 : Below w.heap.size w y5 := below_step bel_4 bel_4.size hB
          clear X_4 rrv2 bel_4 hB
          go_wp2_with fail
          go_ret
          exact ⟨rfl, bel_6⟩
        · clear d1 d2 d3
          obtain ⟨i, rfl⟩ : ∃ i : Nat, t = (i : Int) := ⟨t.toNat, by omega⟩
          obtain ⟨j, rfl⟩ : ∃ j : Nat, b = (j : Int) := ⟨b.toNat, by omega⟩
          have d1 : decide ((i : Int) < 0) = false := decide_eq_false (by omega)
          have d2 : decide ((4 : Int) ≤ (i : Int)) = false := decide_eq_false (by omega)
          have d3 : decide ((j : Int) < 0) = false := decide_eq_false (by omega)
          have d4 : decide ((32 : Int) ≤ (j : Int)) = false := decide_eq_false (by omega)
          have hi4 : i < 4 := by omega
          have hj32 : j < 32 := by omega
          have HI := Lib.hid hi4; have HJ := Lib.hid hj32
          have ii : (i : Int) < 4 := by omega
          have jj : (j : Int) < 32 := by omega
          have HCELL := Lib.hid (dg_cell H4.out hi4 hj32)
          have HSET := Lib.hid (mov_set H4.out hi4 hj32 HC.out)
          have M4 := Lib.hid (movL_p4 (j := j) H4.out hi4 HC.out)
          have HMN := Lib.hid (fun hx => movL_ne (c := c) H4.out hi4 hj32 hx)
          obtain ⟨x, hx⟩ : ∃ x, x = (L.getD i []).getD j 0 := ⟨_, rfl⟩
          obtain ⟨M, hM⟩ : ∃ M, M = movL L i j c := ⟨_, rfl⟩
          rw [← hx] at HCELL HMN
          rw [← hM] at HSET M4 HMN
          clear h1 h2 h3 h5 hx hM
          have SM := Lib.hid (sz_path M4.out.ok M4.out.len)
          by_cases hxc : x = c
          · have HXC : Hid (decide ((x : Int) = (c : Int)) = true) := Lib.hid (decide_eq_true (by omega))
            clear hxc hi4 hj32
            go_enter Tryd.func6, Tryd.ntmps6
            go_wp2_with (first
              | ((with_reducible refine at_slot 6 ?_); (refine arm_box (o := ⟨some 6, _, _, _, _, _⟩) rfl _ _ rfl (u8s leaf) rfl ?_); intro X v1 Xe hv1 nv1; try simp only [Act.put, List.setIfInBounds_toArray, List.set_cons_zero, List.set_cons_succ])
              | ((with_reducible refine at_slot 8 ?_); (refine arm_box (o := ⟨some 8, _, _, _, _, _⟩) rfl _ _ rfl (dgC L) rfl ?_); intro Y v2 Ye hv2 nv2; try simp only [Act.put, List.setIfInBounds_toArray, List.set_cons_zero, List.set_cons_succ]))
            have hbv1 := nv1.below
            have rrv1 : Row v1 X 23 (u8s leaf) := hv1
            have hbv2 := nv2.below
            have rrv2 : Row v2 Y 29 (dgC L) := hv2
            have geX : w.heap.size ≤ X := by have := Xe.out; omega
            clear hv1 nv1 Xe
            have bel_3 : Below w.heap.size w v1 := hbv1
            clear hbv1
            have geY : w.heap.size ≤ Y := by have := Ye.out; have := bel_3.size; omega
            have ltXY : X < Y := by have := Ye.out; have := rrv1.lt; omega
            clear hv2 nv2 Ye
            have X_4 : Row v2 X 23 (u8s leaf) := rrv1.old hbv2
            have bel_4 : Below w.heap.size w v2 := below_step bel_3 bel_3.size hbv2
            clear rrv1 bel_3 hbv2
            refine (CA.out _ (HKW.out _ bel_4)).mono ?_
            rintro e y5 ⟨rfl, hB⟩
            have X_6 : Row y5 X 23 (u8s leaf) := X_4.old hB
            have Y_6 : Row y5 Y 29 (dgC L) := rrv2.old hB
            have bel_6 : Below w.heap.size w y5 := below_step bel_4 bel_4.size hB
            clear X_4 rrv2 bel_4 hB
            go_wp2_with (first
              | ((with_reducible refine at_slot 42 ?_); (refine arm_want (.pointer (some ⟨Y, i * 32, none⟩)) 42 rfl (by kernel_rfl) (run_op_arr _ _ _ rfl 4 23 32 (by kernel_rfl) (by kernel_rfl) Y 0 rfl .i64 _ rfl i rfl HI.out (i * 32) (by omega) _) ?_); try simp only [Act.put, List.setIfInBounds_toArray, List.set_cons_zero, List.set_cons_succ])
              | ((with_reducible refine at_slot 43 ?_); (refine arm_want (.pointer (some ⟨Y, i * 32 + j, none⟩)) 43 rfl (by kernel_rfl) (run_op_arr _ _ _ rfl 32 5 1 (by kernel_rfl) (by kernel_rfl) Y (i * 32) rfl .i64 _ rfl j rfl HJ.out (i * 32 + j) (by omega) _) ?_); try simp only [Act.put, List.setIfInBounds_toArray, List.set_cons_zero, List.set_cons_succ])
              | ((with_reducible refine at_slot 44 ?_); (refine arm_want (.int .u8 (x : Int)) 44 rfl (by kernel_rfl) (run_op_load8 _ rfl ⟨Y, i * 32 + j, none⟩ rfl _ (Y_6.cell HCELL.out)) ?_); try simp only [Act.put, List.setIfInBounds_toArray, List.set_cons_zero, List.set_cons_succ])
              | ((with_reducible refine at_slot 46 ?_); (refine arm_want (.bool true) 46 rfl (by kernel_rfl) (cmp_eql _ _ .u8 (by kernel_rfl) _ _ rfl .u8 ((x : Int)) ((c : Int)) rfl rfl true (HXC.out) _) ?_); try simp only [Act.put, List.setIfInBounds_toArray, List.set_cons_zero, List.set_cons_succ]))
            go_ret
            exact ⟨rfl, bel_6⟩
          · have HXC : Hid (decide ((x : Int) = (c : Int)) = false) := Lib.hid (decide_eq_false (by omega))
            have HNE := Lib.hid (HMN.out hxc)
            clear hxc hi4 hj32 HMN
            by_cases hin : 0 ≤ p ∧ p < 16
            · obtain ⟨q, rfl⟩ : ∃ q : Nat, p = (q : Int) := ⟨p.toNat, by omega⟩
              have HLT : Hid (i * 32 + j < (dgC L).length) := Lib.hid (by rw [dg4 H4.out.ok H4.out.len]; have := HI.out; have := HJ.out; omega)
              have hq : q < 16 := by omega
              have HQ := Lib.hid hq
              have KU := Lib.hid (lead_ok (p := q) (L := L) KF.out 4); have KV := Lib.hid (lead_ok (p := q) (L := M) KF.out 4)
              obtain ⟨dl, hdl⟩ : ∃ d, d = leadK q L leaf 4 := ⟨_, rfl⟩
              obtain ⟨dm, hdm⟩ : ∃ d, d = leadK q M leaf 4 := ⟨_, rfl⟩
              have CL1 : Hid (∀ w0, w0.rangeAt 1 0 (u32s ks) → Calls Tryd.prog 8 #[.int .i64 (q : Int), .agg (u8s leaf).toArray, .agg (dgC L).toArray] w0 fun e w' => e = .returned (.tuple #[.agg (u8s dl).toArray, .int .i64 0]) ∧ Below w0.heap.size w0 w') := Lib.hid fun w0 h => (lead_any _ L leaf w0 H4.out KF.out h).mono fun e w' h => ⟨by rw [h.ret, leadI_in HQ.out, pathE_in HQ.out, hdl]; rfl, h.bel⟩
              have CL2 : Hid (∀ w0, w0.rangeAt 1 0 (u32s ks) → Calls Tryd.prog 8 #[.int .i64 (q : Int), .agg (u8s leaf).toArray, .agg (dgC M).toArray] w0 fun e w' => e = .returned (.tuple #[.agg (u8s dm).toArray, .int .i64 0]) ∧ Below w0.heap.size w0 w') := Lib.hid fun w0 h => (lead_any _ M leaf w0 M4.out KF.out h).mono fun e w' h => ⟨by rw [h.ret, leadI_in HQ.out, pathE_in HQ.out, hdm]; rfl, h.bel⟩
              rw [← hdl] at KU
              rw [← hdm] at KV
              have HDL := Lib.hid hdl; have HDM := Lib.hid hdm
              have HPQ : Hid (q ≤ 9223372036854775807) := Lib.hid (by omega)
              clear hin hq hdl hdm
              by_cases heq : dl = dm
              · have HEQ := Lib.hid heq
                clear heq
                go_enter Tryd.func6, Tryd.ntmps6
                go_wp2_with (first
                  | ((with_reducible refine at_slot 6 ?_); (refine arm_box (o := ⟨some 6, _, _, _, _, _⟩) rfl _ _ rfl (u8s leaf) rfl ?_); intro X v1 Xe hv1 nv1; try simp only [Act.put, List.setIfInBounds_toArray, List.set_cons_zero, List.set_cons_succ])
                  | ((with_reducible refine at_slot 8 ?_); (refine arm_box (o := ⟨some 8, _, _, _, _, _⟩) rfl _ _ rfl (dgC L) rfl ?_); intro Y v2 Ye hv2 nv2; try simp only [Act.put, List.setIfInBounds_toArray, List.set_cons_zero, List.set_cons_succ]))
                have hbv1 := nv1.below
                have rrv1 : Row v1 X 23 (u8s leaf) := hv1
                have hbv2 := nv2.below
                have rrv2 : Row v2 Y 29 (dgC L) := hv2
                have geX : w.heap.size ≤ X := by have := Xe.out; omega
                clear hv1 nv1 Xe
                have bel_3 : Below w.heap.size w v1 := hbv1
                clear hbv1
                have geY : w.heap.size ≤ Y := by have := Ye.out; have := bel_3.size; omega
                have ltXY : X < Y := by have := Ye.out; have := rrv1.lt; omega
                clear hv2 nv2 Ye
                have X_4 : Row v2 X 23 (u8s leaf) := rrv1.old hbv2
                have bel_4 : Below w.heap.size w v2 := below_step bel_3 bel_3.size hbv2
                clear rrv1 bel_3 hbv2
                refine (CA.out _ (HKW.out _ bel_4)).mono ?_
                rintro e y5 ⟨rfl, hB⟩
                have X_6 : Row y5 X 23 (u8s leaf) := X_4.old hB
                have Y_6 : Row y5 Y 29 (dgC L) := rrv2.old hB
                have bel_6 : Below w.heap.size w y5 := below_step bel_4 bel_4.size hB
                clear X_4 rrv2 bel_4 hB
                go_wp2_with (first
                  | ((with_reducible refine at_slot 42 ?_); (refine arm_want (.pointer (some ⟨Y, i * 32, none⟩)) 42 rfl (by kernel_rfl) (run_op_arr _ _ _ rfl 4 23 32 (by kernel_rfl) (by kernel_rfl) Y 0 rfl .i64 _ rfl i rfl HI.out (i * 32) (by omega) _) ?_); try simp only [Act.put, List.setIfInBounds_toArray, List.set_cons_zero, List.set_cons_succ])
                  | ((with_reducible refine at_slot 43 ?_); (refine arm_want (.pointer (some ⟨Y, i * 32 + j, none⟩)) 43 rfl (by kernel_rfl) (run_op_arr _ _ _ rfl 32 5 1 (by kernel_rfl) (by kernel_rfl) Y (i * 32) rfl .i64 _ rfl j rfl HJ.out (i * 32 + j) (by omega) _) ?_); try simp only [Act.put, List.setIfInBounds_toArray, List.set_cons_zero, List.set_cons_succ])
                  | ((with_reducible refine at_slot 44 ?_); (refine arm_want (.int .u8 (x : Int)) 44 rfl (by kernel_rfl) (run_op_load8 _ rfl ⟨Y, i * 32 + j, none⟩ rfl _ (Y_6.cell HCELL.out)) ?_); try simp only [Act.put, List.setIfInBounds_toArray, List.set_cons_zero, List.set_cons_succ])
                  | ((with_reducible refine at_slot 46 ?_); (refine arm_want (.bool false) 46 rfl (by kernel_rfl) (cmp_eql _ _ .u8 (by kernel_rfl) _ _ rfl .u8 ((x : Int)) ((c : Int)) rfl rfl false (HXC.out) _) ?_); try simp only [Act.put, List.setIfInBounds_toArray, List.set_cons_zero, List.set_cons_succ])
                  | ((with_reducible refine at_slot 48 ?_); (refine arm_load (o := ⟨some 48, _, _, _, _, _⟩) rfl _ _ rfl Y 0 rfl (dgC L) ((Has.refl _).range Y_6) SP.out ?_); try simp only [Act.put, List.setIfInBounds_toArray, List.set_cons_zero, List.set_cons_succ])
                  | ((with_reducible refine at_slot 13 ?_); (refine pause ?_); try simp only [Act.put, List.setIfInBounds_toArray, List.set_cons_zero, List.set_cons_succ]))
                refine go_on ?_
                go_wp2_with (first
                  | ((with_reducible refine at_slot 13 ?_); (refine arm_alloc (o := ⟨some 13, _, _, _, _, _⟩) rfl _ rfl (dgC z4) z_path ?_); intro Z v7a Ze hZa nZ; try simp only [Act.put, List.setIfInBounds_toArray, List.set_cons_zero, List.set_cons_succ])
                  | ((with_reducible refine arm_store (o := ⟨none, _, _, _, _, _⟩) rfl _ _ _ rfl Z 0 rfl (dgC L) rfl _ _ hZa FP.out (dgC_ones _) SP.out ?_); intro v7 hZb oZ sZ; try simp only [Act.put, List.setIfInBounds_toArray, List.set_cons_zero, List.set_cons_succ])
                  | ((with_reducible refine arm_storeV (o := ⟨none, _, _, _, _, _⟩) rfl _ _ _ rfl Z (i * 32 + j) rfl (.int .u8 (c : Int)) rfl (one_i _ _) sz_u8 _ _ (hZb.congr AP.out) (HLT.out) ?_); intro wz hz oz sz; refine pause ?_; try simp only [Act.put, List.setIfInBounds_toArray, List.set_cons_zero, List.set_cons_succ]))
                have lZ : y5.heap.size ≤ Z := by have := Ze.out; omega
                have bZ : Below y5.heap.size y5 v7 := below_only nZ.below oZ lZ nZ.below.size
                have rrZ : Row v7 Z 29 (dgC L) := hZb.congr AP.out
                have geZ : w.heap.size ≤ Z := Nat.le_trans bel_6.size lZ
                have neXZ : X ≠ Z := by have := X_6.lt; omega
                have neYZ : Y ≠ Z := by have := Y_6.lt; omega
                clear hZa hZb nZ oZ sZ Ze lZ
                have X_8 : Row v7 X 23 (u8s leaf) := X_6.old bZ
                have Y_8 : Row v7 Y 29 (dgC L) := Y_6.old bZ
                have bel_8 : Below w.heap.size w v7 := below_step bel_6 bel_6.size bZ
                clear X_6 Y_6 bel_6 bZ
                refine go_on ?_
                clear sz
                have X_9 : Row wz X 23 (u8s leaf) := X_8.only oz neXZ
                have Y_9 : Row wz Y 29 (dgC L) := Y_8.only oz neYZ
                have Z_9 : Row wz Z 29 (dgC M) := hz.congr HSET.out
                have bel_9 : Below w.heap.size w wz := below_only bel_8 oz geZ bel_8.size
                clear X_8 Y_8 rrZ bel_8 oz
                clear hz
                go_wp2_with (first
                  | ((with_reducible refine at_slot 56 ?_); (refine arm_load (o := ⟨some 56, _, _, _, _, _⟩) rfl _ _ rfl X 0 rfl (u8s leaf) ((Has.refl _).range X_9) (szH KF.out) ?_); try simp only [Act.put, List.setIfInBounds_toArray, List.set_cons_zero, List.set_cons_succ])
                  | ((with_reducible refine at_slot 57 ?_); (refine arm_load (o := ⟨some 57, _, _, _, _, _⟩) rfl _ _ rfl Y 0 rfl (dgC L) ((Has.refl _).range Y_9) SP.out ?_); try simp only [Act.put, List.setIfInBounds_toArray, List.set_cons_zero, List.set_cons_succ]))
                refine (CL1.out _ (HKW.out _ bel_9)).mono ?_
                rintro e y10 ⟨rfl, hB⟩
                have X_11 : Row y10 X 23 (u8s leaf) := X_9.old hB
                have Y_11 : Row y10 Y 29 (dgC L) := Y_9.old hB
                have Z_11 : Row y10 Z 29 (dgC M) := Z_9.old hB
                have bel_11 : Below w.heap.size w y10 := below_step bel_9 bel_9.size hB
                clear X_9 Y_9 Z_9 bel_9 hB
                go_wp2_with (first
                  | ((with_reducible refine at_slot 14 ?_); (refine arm_alloc (o := ⟨some 14, _, _, _, _, _⟩) rfl _ rfl (u8s zh) zH ?_); intro U v12a Ue hUa nU; try simp only [Act.put, List.setIfInBounds_toArray, List.set_cons_zero, List.set_cons_succ])
                  | ((with_reducible refine arm_store (o := ⟨none, _, _, _, _, _⟩) rfl _ _ _ rfl U 0 rfl (u8s dl) rfl _ _ hUa (fitH KU.out) (u8s_one _) (szH KU.out) ?_); intro v12 hUb oU sU; try simp only [Act.put, List.setIfInBounds_toArray, List.set_cons_zero, List.set_cons_succ])
                  | ((with_reducible refine at_slot 63 ?_); (refine arm_load (o := ⟨some 63, _, _, _, _, _⟩) rfl _ _ rfl X 0 rfl (u8s leaf) ((Has.refl _).range ((X_11.old nU.below).only oU (by have := Ue.out; have := X_11.lt; omega))) (szH KF.out) ?_); try simp only [Act.put, List.setIfInBounds_toArray, List.set_cons_zero, List.set_cons_succ])
                  | ((with_reducible refine at_slot 64 ?_); (refine arm_load (o := ⟨some 64, _, _, _, _, _⟩) rfl _ _ rfl Z 0 rfl (dgC M) ((Has.refl _).range ((Z_11.old nU.below).only oU (by have := Ue.out; have := Z_11.lt; omega))) SM.out ?_); try simp only [Act.put, List.setIfInBounds_toArray, List.set_cons_zero, List.set_cons_succ]))
                have lU : y10.heap.size ≤ U := by have := Ue.out; omega
                have bU : Below y10.heap.size y10 v12 := below_only nU.below oU lU nU.below.size
                have rrU : Row v12 U 23 (u8s dl) := hUb.congr (allH KU.out)
                have geU : w.heap.size ≤ U := Nat.le_trans bel_11.size lU
                clear hUa hUb nU oU sU Ue lU
                have X_13 : Row v12 X 23 (u8s leaf) := X_11.old bU
                have Y_13 : Row v12 Y 29 (dgC L) := Y_11.old bU
                have Z_13 : Row v12 Z 29 (dgC M) := Z_11.old bU
                have bel_13 : Below w.heap.size w v12 := below_step bel_11 bel_11.size bU
                clear X_11 Y_11 Z_11 bel_11 bU
                refine (CL2.out _ (HKW.out _ bel_13)).mono ?_
                rintro e y14 ⟨rfl, hB⟩
                have X_15 : Row y14 X 23 (u8s leaf) := X_13.old hB
                have Y_15 : Row y14 Y 29 (dgC L) := Y_13.old hB
                have Z_15 : Row y14 Z 29 (dgC M) := Z_13.old hB
                have U_15 : Row y14 U 23 (u8s dl) := rrU.old hB
                have bel_15 : Below w.heap.size w y14 := below_step bel_13 bel_13.size hB
                clear X_13 Y_13 Z_13 rrU bel_13 hB
                go_wp2_with (first
                  | ((with_reducible refine at_slot 16 ?_); (refine arm_alloc (o := ⟨some 16, _, _, _, _, _⟩) rfl _ rfl (u8s zh) zH ?_); intro V v16a Ve hVa nV; try simp only [Act.put, List.setIfInBounds_toArray, List.set_cons_zero, List.set_cons_succ])
                  | ((with_reducible refine arm_store (o := ⟨none, _, _, _, _, _⟩) rfl _ _ _ rfl V 0 rfl (u8s dm) rfl _ _ hVa (fitH KV.out) (u8s_one _) (szH KV.out) ?_); intro v16 hVb oV sV; try simp only [Act.put, List.setIfInBounds_toArray, List.set_cons_zero, List.set_cons_succ])
                  | ((with_reducible refine at_slot 70 ?_); (refine arm_want (.bool false) 70 rfl (by kernel_rfl) (cmp_neq _ _ .i64 (by kernel_rfl) _ _ rfl .i64 (0) (0) rfl rfl false (by decide) _) ?_); try simp only [Act.put, List.setIfInBounds_toArray, List.set_cons_zero, List.set_cons_succ])
                  | ((with_reducible refine at_slot 73 ?_); (refine arm_want (.bool false) 73 rfl (by kernel_rfl) (cmp_neq _ _ .i64 (by kernel_rfl) _ _ rfl .i64 (0) (0) rfl rfl false (by decide) _) ?_); try simp only [Act.put, List.setIfInBounds_toArray, List.set_cons_zero, List.set_cons_succ])
                  | ((with_reducible refine at_slot 83 ?_); (refine arm_load (o := ⟨some 83, _, _, _, _, _⟩) rfl _ _ rfl U 0 rfl (u8s dl) ((Has.refl _).range ((U_15.old nV.below).only oV (by have := Ve.out; have := U_15.lt; omega))) (szH KU.out) ?_); try simp only [Act.put, List.setIfInBounds_toArray, List.set_cons_zero, List.set_cons_succ])
                  | ((with_reducible refine at_slot 84 ?_); (refine arm_load (o := ⟨some 84, _, _, _, _, _⟩) rfl _ _ rfl V 0 rfl (u8s dm) ((Has.refl _).range (hVb.congr (allH KV.out))) (szH KV.out) ?_); try simp only [Act.put, List.setIfInBounds_toArray, List.set_cons_zero, List.set_cons_succ])
                  | ((with_reducible refine at_slot 85 ?_); (refine arm_want (.bool false) 85 rfl (by kernel_rfl) (run_op_neqD KU.out KV.out _ _ _ rfl rfl rfl true (iff_of_true rfl HEQ.out) _) ?_); try simp only [Act.put, List.setIfInBounds_toArray, List.set_cons_zero, List.set_cons_succ]))
                have lV : y14.heap.size ≤ V := by have := Ve.out; omega
                have bV : Below y14.heap.size y14 v16 := below_only nV.below oV lV nV.below.size
                have rrV : Row v16 V 23 (u8s dm) := hVb.congr (allH KV.out)
                have geV : w.heap.size ≤ V := Nat.le_trans bel_15.size lV
                clear hVa hVb nV oV sV Ve lV
                have X_17 : Row v16 X 23 (u8s leaf) := X_15.old bV
                have Y_17 : Row v16 Y 29 (dgC L) := Y_15.old bV
                have Z_17 : Row v16 Z 29 (dgC M) := Z_15.old bV
                have U_17 : Row v16 U 23 (u8s dl) := U_15.old bV
                have bel_17 : Below w.heap.size w v16 := below_step bel_15 bel_15.size bV
                clear X_15 Y_15 Z_15 U_15 bel_15 bV
                clear U_17
                clear rrV
                refine wp_region_held (S := fun w' => Row w' X 23 (u8s leaf) ∧ True) (by kernel_rfl) ?_
                change wpAnyH _ _ _ _ _ _ _ _ v16.drew
                have hd18 : Below v16.heap.size v16 v16.drew := (Below.refl _ _).drew
                have X_19 : Row v16.drew X 23 (u8s leaf) := X_17.old hd18
                have Y_19 : Row v16.drew Y 29 (dgC L) := Y_17.old hd18
                have Z_19 : Row v16.drew Z 29 (dgC M) := Z_17.old hd18
                have bel_19 : Below w.heap.size w v16.drew := below_step bel_17 bel_17.size hd18
                clear X_17 Y_17 Z_17 bel_17 hd18
                generalize v16.drew = yz18 at X_19 Y_19 Z_19 bel_19 ⊢
                refine h_take 0 (.agg (u8s leaf).toArray) rfl 86 rfl (by kernel_rfl) (by kernel_rfl) (by kernel_rfl) (by kernel_rfl) (fun _ _ _ h => h) (fun w' hw => run_op_load _ _ rfl X (0) rfl (u8s leaf) (((Has.refl _)).range hw.1) ((szH KF.out))) ⟨X_19, trivial⟩ ?_
                simp only [Act.put, List.setIfInBounds_toArray, List.set_cons_zero, List.set_cons_succ]
                refine h_take 1 (.agg (u8s leaf).toArray) rfl 87 rfl (by kernel_rfl) (by kernel_rfl) (by kernel_rfl) (by kernel_rfl) (fun _ _ _ h => h) (fun w' hw => run_op_load _ _ rfl X (0) rfl (u8s leaf) (((Has.refl _)).range hw.1) ((szH KF.out))) ⟨X_19, trivial⟩ ?_
                simp only [Act.put, List.setIfInBounds_toArray, List.set_cons_zero, List.set_cons_succ]
                refine h_allocs (i := 2) (j := 3) rfl rfl (by kernel_rfl) (by kernel_rfl) (by kernel_rfl) (by decide) rfl rfl 18 19 rfl rfl (by kernel_rfl) 23 23 rfl rfl (u8s zh) (u8s zh) zH zH (fun w' hb => ⟨X_19.old hb, trivial⟩) ?_
                intro D E y20 nDE gD gE rD rE hby20
                have geD : w.heap.size ≤ D := Nat.le_trans bel_19.size gD
                have geE : w.heap.size ≤ E := Nat.le_trans bel_19.size gE
                have neXD : X ≠ D := by have := X_19.lt; omega
                have neXE : X ≠ E := by have := X_19.lt; omega
                have neYD : Y ≠ D := by have := Y_19.lt; omega
                have neYE : Y ≠ E := by have := Y_19.lt; omega
                have neZD : Z ≠ D := by have := Z_19.lt; omega
                have neZE : Z ≠ E := by have := Z_19.lt; omega
                have X_21 : Row y20 X 23 (u8s leaf) := X_19.old hby20
                have Y_21 : Row y20 Y 29 (dgC L) := Y_19.old hby20
                have Z_21 : Row y20 Z 29 (dgC M) := Z_19.old hby20
                have bel_21 : Below w.heap.size w y20 := below_step bel_19 bel_19.size hby20
                clear X_19 Y_19 Z_19 bel_19 hby20
                clear gD gE
                simp only [Act.put, List.setIfInBounds_toArray, List.set_cons_zero, List.set_cons_succ]
                refine h_one (i := 4) (by kernel_rfl) (o_skip rfl rfl (by kernel_rfl) (run_op_store _ _ _ rfl D (0) rfl (u8s leaf) rfl _ _ rD (fitH KF.out) (u8s_one _) (szH KF.out)) ?_)
                have rq := row_setRow rD (lay (u8s zh) (0) (u8s leaf))
                have oq := Only.setRow D y20 (lay (u8s zh) (0) (u8s leaf)).toArray
                generalize y20.setRow D (lay (u8s zh) (0) (u8s leaf)).toArray = y22 at rq oq ⊢
                have X_23 : Row y22 X 23 (u8s leaf) := X_21.only oq neXD
                have Y_23 : Row y22 Y 29 (dgC L) := Y_21.only oq neYD
                have Z_23 : Row y22 Z 29 (dgC M) := Z_21.only oq neZD
                have D_23 : Row y22 D 23 (u8s leaf) := rq.congr (allH KF.out)
                have E_23 : Row y22 E 23 (u8s zh) := rE.only oq nDE.symm
                have bel_23 : Below w.heap.size w y22 := below_only bel_21 oq geD bel_21.size
                clear X_21 Y_21 Z_21 rD rE bel_21 oq
                clear rq
                refine ⟨⟨X_23, trivial⟩, ?_⟩
                refine h_one (i := 5) (by kernel_rfl) (o_skip rfl rfl (by kernel_rfl) (run_op_store _ _ _ rfl E (0) rfl (u8s leaf) rfl _ _ E_23 (fitH KF.out) (u8s_one _) (szH KF.out)) ?_)
                have rq := row_setRow E_23 (lay (u8s zh) (0) (u8s leaf))
                have oq := Only.setRow E y22 (lay (u8s zh) (0) (u8s leaf)).toArray
                generalize y22.setRow E (lay (u8s zh) (0) (u8s leaf)).toArray = y24 at rq oq ⊢
                have X_25 : Row y24 X 23 (u8s leaf) := X_23.only oq neXE
                have Y_25 : Row y24 Y 29 (dgC L) := Y_23.only oq neYE
                have Z_25 : Row y24 Z 29 (dgC M) := Z_23.only oq neZE
                have D_25 : Row y24 D 23 (u8s leaf) := D_23.only oq nDE
                have E_25 : Row y24 E 23 (u8s leaf) := rq.congr (allH KF.out)
                have bel_25 : Below w.heap.size w y24 := below_only bel_23 oq geE bel_23.size
                clear X_23 Y_23 Z_23 D_23 E_23 bel_23 oq
                clear rq
                refine ⟨⟨X_25, trivial⟩, ?_⟩
                refine wpAnyH_done (by kernel_rfl) ?_ _
                go_wp2_with fail
                try simp only [Act.put]
                have h0 : MvRel w Y Z D E q L M leaf (.int .i64 0) y24 := ⟨⟨0, by omega, rfl, D_25, E_25, fun j hj => by omega⟩, Y_25, Z_25, bel_25⟩
                clear X_25 Y_25 Z_25 D_25 E_25 bel_25 CA CL1 CL2
                have nYD := neYD; have nYE := neYE; have nZD := neZD; have nZE := neZE
                go_loopw [88] (fun i wr => MvRel w Y Z D E q L M leaf i wr) (fun i _ => 4 - (intOf i).toNat)
                case atStart => exact h0
                case round =>
                  clear h0
                  obtain ⟨⟨k, hk, rfl, hD, hE, hno⟩, hY, hZ, bel⟩ := hrel
                  have HNO := Lib.hid hno
                  by_cases hlt : k < 4
                  · have ik : (k : Int) < 4 := by omega
                    have HLK := Lib.hid hlt
                    obtain ⟨e1, he1⟩ : ∃ x, x = leadK q L leaf k := ⟨_, rfl⟩
                    obtain ⟨x1, hx1⟩ : ∃ x, x = L.getD k [] := ⟨_, rfl⟩
                    obtain ⟨n1, hn1⟩ : ∃ x, x = leadK q L leaf (k + 1) := ⟨_, rfl⟩
                    have KE1 : Hid (H32 e1) := Lib.hid (he1 ▸ lead_ok KF.out k)
                    have KX1 : Hid (H32 x1) := Lib.hid (hx1 ▸ H4.out.at hlt)
                    have KN1 : Hid (H32 n1) := Lib.hid (hn1 ▸ lead_ok KF.out (k + 1))
                    have HP1 : Hid (Has (dgC L) (32 * k) (u8s x1)) := Lib.hid (hx1 ▸ path_has H4.out.ok (H4.out.get hlt))
                    have HST1 : Hid (n1 = if q / 2 ^ k % 2 = 0 then joinD (k + 1) e1 x1 else joinD (k + 1) x1 e1) := Lib.hid (by rw [hn1, he1, hx1]; exact lead_succ q L leaf k)
                    have HE1 := Lib.hid he1; have HX1 := Lib.hid hx1; have HN1 := Lib.hid hn1
                    obtain ⟨e2, he2⟩ : ∃ x, x = leadK q M leaf k := ⟨_, rfl⟩
                    obtain ⟨x2, hx2⟩ : ∃ x, x = M.getD k [] := ⟨_, rfl⟩
                    obtain ⟨n2, hn2⟩ : ∃ x, x = leadK q M leaf (k + 1) := ⟨_, rfl⟩
                    have KE2 : Hid (H32 e2) := Lib.hid (he2 ▸ lead_ok KF.out k)
                    have KX2 : Hid (H32 x2) := Lib.hid (hx2 ▸ M4.out.at hlt)
                    have KN2 : Hid (H32 n2) := Lib.hid (hn2 ▸ lead_ok KF.out (k + 1))
                    have HP2 : Hid (Has (dgC M) (32 * k) (u8s x2)) := Lib.hid (hx2 ▸ path_has M4.out.ok (M4.out.get hlt))
                    have HST2 : Hid (n2 = if q / 2 ^ k % 2 = 0 then joinD (k + 1) e2 x2 else joinD (k + 1) x2 e2) := Lib.hid (by rw [hn2, he2, hx2]; exact lead_succ q M leaf k)
                    have HE2 := Lib.hid he2; have HX2 := Lib.hid hx2; have HN2 := Lib.hid hn2
                    rw [← he1] at hD
                    rw [← he2] at hE
                    have HK64 : Hid (k < 64) := Lib.hid (by omega)
                    have HX16 : Hid (q / 2 ^ k < 16) := Lib.hid (Nat.lt_of_le_of_lt (Nat.div_le_self _ _) HQ.out)
                    have HW : Hid (IntKind.i64.wrap ((k : Int) + 1) = ((k + 1 : Nat) : Int)) := Lib.hid (by rw [IntKind.wrap_i64]; omega)
                    clear he1 hx1 hn1 he2 hx2 hn2 hno
                    go_wp2_with fail
                    refine wp_region_held (S := fun w' => Row w' D 23 (u8s e1) ∧ Row w' E 23 (u8s e2) ∧ True) (by kernel_rfl) ?_
                    change wpAnyH _ _ _ _ _ _ _ _ wr.drew
                    have hd301 : Below wr.heap.size wr wr.drew := (Below.refl _ _).drew
                    have D_302 : Row wr.drew D 23 (u8s e1) := hD.old hd301
                    have E_302 : Row wr.drew E 23 (u8s e2) := hE.old hd301
                    have Y_302 : Row wr.drew Y 29 (dgC L) := hY.old hd301
                    have Z_302 : Row wr.drew Z 29 (dgC M) := hZ.old hd301
                    have bel_302 : Below w.heap.size w wr.drew := below_step bel bel.size hd301
                    clear hD hE hY hZ bel hd301
                    generalize wr.drew = yz301 at D_302 E_302 Y_302 Z_302 bel_302 ⊢
                    refine h_take 0 (.agg (u8s e1).toArray) rfl 91 rfl (by kernel_rfl) (by kernel_rfl) (by kernel_rfl) (by kernel_rfl) (fun _ _ _ h => h) (fun w' hw => run_op_load _ _ rfl D (0) rfl (u8s e1) (((Has.refl _)).range hw.1) ((szH KE1.out))) ⟨D_302, E_302, trivial⟩ ?_
                    simp only [Act.put, List.setIfInBounds_toArray, List.set_cons_zero, List.set_cons_succ]
                    refine h_take 1 (.agg (u8s e2).toArray) rfl 92 rfl (by kernel_rfl) (by kernel_rfl) (by kernel_rfl) (by kernel_rfl) (fun _ _ _ h => h) (fun w' hw => run_op_load _ _ rfl E (0) rfl (u8s e2) (((Has.refl _)).range hw.2.1) ((szH KE2.out))) ⟨D_302, E_302, trivial⟩ ?_
                    simp only [Act.put, List.setIfInBounds_toArray, List.set_cons_zero, List.set_cons_succ]
                    refine h_allocs (i := 2) (j := 3) rfl rfl (by kernel_rfl) (by kernel_rfl) (by kernel_rfl) (by decide) rfl rfl 21 22 rfl rfl (by kernel_rfl) 23 23 rfl rfl (u8s zh) (u8s zh) zH zH (fun w' hb => ⟨D_302.old hb, E_302.old hb, trivial⟩) ?_
                    intro A B y303 nAB gA gB rA rB hby303
                    have geA : w.heap.size ≤ A := Nat.le_trans bel_302.size gA
                    have geB : w.heap.size ≤ B := Nat.le_trans bel_302.size gB
                    have neDA : D ≠ A := by have := D_302.lt; omega
                    have neDB : D ≠ B := by have := D_302.lt; omega
                    have neEA : E ≠ A := by have := E_302.lt; omega
                    have neEB : E ≠ B := by have := E_302.lt; omega
                    have neYA : Y ≠ A := by have := Y_302.lt; omega
                    have neYB : Y ≠ B := by have := Y_302.lt; omega
                    have neZA : Z ≠ A := by have := Z_302.lt; omega
                    have neZB : Z ≠ B := by have := Z_302.lt; omega
                    have D_304 : Row y303 D 23 (u8s e1) := D_302.old hby303
                    have E_304 : Row y303 E 23 (u8s e2) := E_302.old hby303
                    have Y_304 : Row y303 Y 29 (dgC L) := Y_302.old hby303
                    have Z_304 : Row y303 Z 29 (dgC M) := Z_302.old hby303
                    have bel_304 : Below w.heap.size w y303 := below_step bel_302 bel_302.size hby303
                    clear D_302 E_302 Y_302 Z_302 bel_302 hby303
                    clear gA gB
                    simp only [Act.put, List.setIfInBounds_toArray, List.set_cons_zero, List.set_cons_succ]
                    refine h_one (i := 4) (by kernel_rfl) (o_skip rfl rfl (by kernel_rfl) (run_op_store _ _ _ rfl A (0) rfl (u8s e1) rfl _ _ rA (fitH KE1.out) (u8s_one _) (szH KE1.out)) ?_)
                    have rq := row_setRow rA (lay (u8s zh) (0) (u8s e1))
                    have oq := Only.setRow A y303 (lay (u8s zh) (0) (u8s e1)).toArray
                    generalize y303.setRow A (lay (u8s zh) (0) (u8s e1)).toArray = y305 at rq oq ⊢
                    have D_306 : Row y305 D 23 (u8s e1) := D_304.only oq neDA
                    have E_306 : Row y305 E 23 (u8s e2) := E_304.only oq neEA
                    have Y_306 : Row y305 Y 29 (dgC L) := Y_304.only oq neYA
                    have Z_306 : Row y305 Z 29 (dgC M) := Z_304.only oq neZA
                    have A_306 : Row y305 A 23 (u8s e1) := rq.congr (allH KE1.out)
                    have B_306 : Row y305 B 23 (u8s zh) := rB.only oq nAB.symm
                    have bel_306 : Below w.heap.size w y305 := below_only bel_304 oq geA bel_304.size
                    clear D_304 E_304 Y_304 Z_304 rA rB bel_304 oq
                    clear rq
                    refine ⟨⟨D_306, E_306, trivial⟩, ?_⟩
                    refine h_one (i := 5) (by kernel_rfl) (o_skip rfl rfl (by kernel_rfl) (run_op_store _ _ _ rfl B (0) rfl (u8s e2) rfl _ _ B_306 (fitH KE2.out) (u8s_one _) (szH KE2.out)) ?_)
                    have rq := row_setRow B_306 (lay (u8s zh) (0) (u8s e2))
                    have oq := Only.setRow B y305 (lay (u8s zh) (0) (u8s e2)).toArray
                    generalize y305.setRow B (lay (u8s zh) (0) (u8s e2)).toArray = y307 at rq oq ⊢
                    have D_308 : Row y307 D 23 (u8s e1) := D_306.only oq neDB
                    have E_308 : Row y307 E 23 (u8s e2) := E_306.only oq neEB
                    have Y_308 : Row y307 Y 29 (dgC L) := Y_306.only oq neYB
                    have Z_308 : Row y307 Z 29 (dgC M) := Z_306.only oq neZB
                    have A_308 : Row y307 A 23 (u8s e1) := A_306.only oq nAB
                    have B_308 : Row y307 B 23 (u8s e2) := rq.congr (allH KE2.out)
                    have bel_308 : Below w.heap.size w y307 := below_only bel_306 oq geB bel_306.size
                    clear D_306 E_306 Y_306 Z_306 A_306 B_306 bel_306 oq
                    clear rq
                    refine ⟨⟨D_308, E_308, trivial⟩, ?_⟩
                    refine wpAnyH_done (by kernel_rfl) ?_ _
                    by_cases he : q / 2 ^ k % 2 = 0
                    · have HM : Hid (decide (((q / 2 ^ k % 2 : Nat) : Int) = 0) = true) := Lib.hid (decide_eq_true (by omega))
                      have CJ1 := Lib.hid (fun w0 h => join_any (k + 1) e1 x1 w0 (by have := HLK.out; omega) KE1.out KX1.out h)
                      rw [show joinD (k + 1) e1 x1 = n1 by rw [HST1.out, if_pos he]] at CJ1
                      have CJ2 := Lib.hid (fun w0 h => join_any (k + 1) e2 x2 w0 (by have := HLK.out; omega) KE2.out KX2.out h)
                      rw [show joinD (k + 1) e2 x2 = n2 by rw [HST2.out, if_pos he]] at CJ2
                      clear he HST1 HST2
                      go_wp2_with (first
                        | ((with_reducible refine at_slot 95 ?_); (refine arm_want (.int .i64 ((q / 2 ^ k : Nat) : Int)) 95 rfl (by kernel_rfl) (run_op_shrI _ _ _ _ rfl q k rfl rfl HPQ.out HK64.out _) ?_); try simp only [Act.put, List.setIfInBounds_toArray, List.set_cons_zero, List.set_cons_succ])
                        | ((with_reducible refine at_slot 96 ?_); (refine arm_want (.int .i64 ((q / 2 ^ k % 2 : Nat) : Int)) 96 rfl (by kernel_rfl) (run_op_andI _ _ _ _ rfl (q / 2 ^ k) rfl rfl HX16.out _) ?_); try simp only [Act.put, List.setIfInBounds_toArray, List.set_cons_zero, List.set_cons_succ])
                        | ((with_reducible refine at_slot 97 ?_); (refine arm_want (.bool true) 97 rfl (by kernel_rfl) (cmp_eql _ _ .i64 (by kernel_rfl) _ _ rfl .i64 _ _ rfl rfl true HM.out _) ?_); try simp only [Act.put, List.setIfInBounds_toArray, List.set_cons_zero, List.set_cons_succ]))
                      go_cut [20] (fun v wx => v = .int .i64 (k : Int) ∧ Row wx D 23 (u8s n1) ∧ Row wx E 23 (u8s n2) ∧ Row wx A 23 (u8s e1) ∧ Row wx B 23 (u8s e2) ∧ Row wx Y 29 (dgC L) ∧ Row wx Z 29 (dgC M) ∧ Below w.heap.size w wx)
                      case first =>
                        refine wp_region_held (S := fun w' => Row w' Y 29 (dgC L) ∧ Row w' Z 29 (dgC M) ∧ True) (by kernel_rfl) ?_
                        change wpAnyH _ _ _ _ _ _ _ _ y307.drew
                        have hd309 : Below y307.heap.size y307 y307.drew := (Below.refl _ _).drew
                        have D_310 : Row y307.drew D 23 (u8s e1) := D_308.old hd309
                        have E_310 : Row y307.drew E 23 (u8s e2) := E_308.old hd309
                        have Y_310 : Row y307.drew Y 29 (dgC L) := Y_308.old hd309
                        have Z_310 : Row y307.drew Z 29 (dgC M) := Z_308.old hd309
                        have A_310 : Row y307.drew A 23 (u8s e1) := A_308.old hd309
                        have B_310 : Row y307.drew B 23 (u8s e2) := B_308.old hd309
                        have bel_310 : Below w.heap.size w y307.drew := below_step bel_308 bel_308.size hd309
                        clear D_308 E_308 Y_308 Z_308 A_308 B_308 bel_308 hd309
                        generalize y307.drew = yz309 at D_310 E_310 Y_310 Z_310 A_310 B_310 bel_310 ⊢
                        refine h_take 0 (.int .i64 (k : Int)) rfl 98 rfl (by kernel_rfl) (by kernel_rfl) (by kernel_rfl) (by kernel_rfl) (fun _ _ _ h => h) (fun w' _ => by kernel_rfl) ⟨Y_310, Z_310, trivial⟩ ?_
                        simp only [Act.put, List.setIfInBounds_toArray, List.set_cons_zero, List.set_cons_succ]
                        refine h_take 1 (.int .i64 ((k + 1 : Nat) : Int)) rfl 99 rfl (by kernel_rfl) (by kernel_rfl) (by kernel_rfl) (by kernel_rfl) (fun _ _ _ h => h) (fun w' _ => run_op_addK _ _ _ _ rfl _ _ _ rfl rfl HW.out w') ⟨Y_310, Z_310, trivial⟩ ?_
                        simp only [Act.put, List.setIfInBounds_toArray, List.set_cons_zero, List.set_cons_succ]
                        refine h_take 3 (.int .i64 (k : Int)) rfl 101 rfl (by kernel_rfl) (by kernel_rfl) (by kernel_rfl) (by kernel_rfl) (fun _ _ _ h => h) (fun w' _ => by kernel_rfl) ⟨Y_310, Z_310, trivial⟩ ?_
                        simp only [Act.put, List.setIfInBounds_toArray, List.set_cons_zero, List.set_cons_succ]
                        refine h_take 4 (.pointer (some ⟨Y, 32 * k, none⟩)) rfl 102 rfl (by kernel_rfl) (by kernel_rfl) (by kernel_rfl) (by kernel_rfl) (fun _ _ _ h => h) (fun w' _ => run_op_arr _ _ _ rfl 4 23 32 (by kernel_rfl) (by kernel_rfl) Y 0 rfl .i64 _ rfl k rfl HLK.out (32 * k) (by omega) w') ⟨Y_310, Z_310, trivial⟩ ?_
                        simp only [Act.put, List.setIfInBounds_toArray, List.set_cons_zero, List.set_cons_succ]
                        refine h_take 5 (.agg (u8s x1).toArray) rfl 103 rfl (by kernel_rfl) (by kernel_rfl) (by kernel_rfl) (by kernel_rfl) (fun _ _ _ h => h) (fun w' hw => run_op_load _ _ rfl Y (32 * k) rfl (u8s x1) ((HP1.out).range hw.1) ((szH KX1.out))) ⟨Y_310, Z_310, trivial⟩ ?_
                        simp only [Act.put, List.setIfInBounds_toArray, List.set_cons_zero, List.set_cons_succ]
                        refine h_take 7 (.int .i64 (k : Int)) rfl 105 rfl (by kernel_rfl) (by kernel_rfl) (by kernel_rfl) (by kernel_rfl) (fun _ _ _ h => h) (fun w' _ => by kernel_rfl) ⟨Y_310, Z_310, trivial⟩ ?_
                        simp only [Act.put, List.setIfInBounds_toArray, List.set_cons_zero, List.set_cons_succ]
                        refine h_take 8 (.int .i64 ((k + 1 : Nat) : Int)) rfl 106 rfl (by kernel_rfl) (by kernel_rfl) (by kernel_rfl) (by kernel_rfl) (fun _ _ _ h => h) (fun w' _ => run_op_addK _ _ _ _ rfl _ _ _ rfl rfl HW.out w') ⟨Y_310, Z_310, trivial⟩ ?_
                        simp only [Act.put, List.setIfInBounds_toArray, List.set_cons_zero, List.set_cons_succ]
                        refine h_take 10 (.int .i64 (k : Int)) rfl 108 rfl (by kernel_rfl) (by kernel_rfl) (by kernel_rfl) (by kernel_rfl) (fun _ _ _ h => h) (fun w' _ => by kernel_rfl) ⟨Y_310, Z_310, trivial⟩ ?_
                        simp only [Act.put, List.setIfInBounds_toArray, List.set_cons_zero, List.set_cons_succ]
                        refine h_take 11 (.pointer (some ⟨Z, 32 * k, none⟩)) rfl 109 rfl (by kernel_rfl) (by kernel_rfl) (by kernel_rfl) (by kernel_rfl) (fun _ _ _ h => h) (fun w' _ => run_op_arr _ _ _ rfl 4 23 32 (by kernel_rfl) (by kernel_rfl) Z 0 rfl .i64 _ rfl k rfl HLK.out (32 * k) (by omega) w') ⟨Y_310, Z_310, trivial⟩ ?_
                        simp only [Act.put, List.setIfInBounds_toArray, List.set_cons_zero, List.set_cons_succ]
                        refine h_take 12 (.agg (u8s x2).toArray) rfl 110 rfl (by kernel_rfl) (by kernel_rfl) (by kernel_rfl) (by kernel_rfl) (fun _ _ _ h => h) (fun w' hw => run_op_load _ _ rfl Z (32 * k) rfl (u8s x2) ((HP2.out).range hw.2.1) ((szH KX2.out))) ⟨Y_310, Z_310, trivial⟩ ?_
                        simp only [Act.put, List.setIfInBounds_toArray, List.set_cons_zero, List.set_cons_succ]
                        refine h_two (i := 2) (j := 9) (by kernel_rfl) ?_ ?_
                        · skip
                          refine o_value (.agg (u8s e1).toArray) rfl 100 rfl (by kernel_rfl) (run_op_load _ _ rfl D 0 rfl (u8s e1) ((Has.refl _).range D_310) (szH KE1.out)) ?_
                          refine ⟨⟨Y_310, Z_310, trivial⟩, ?_⟩
                          simp only [Act.put, List.setIfInBounds_toArray, List.set_cons_zero, List.set_cons_succ]
                          refine h_two (i := 6) (j := 9) (by kernel_rfl) ?_ ?_
                          · skip
                            refine (o_call rfl 104 rfl (by kernel_rfl) (run_op_call 28 _ _ rfl #[.int .i64 ((k + 1 : Nat) : Int), .agg (u8s e1).toArray, .agg (u8s x1).toArray] (by simp only [List.map_toArray, List.map_cons, List.map_nil]; rfl) Tryd.func28 (by kernel_rfl) (by kernel_rfl) _) (CJ1.out _ (HKW.out _ bel_310)) ?_)
                            rintro e y311 ⟨rfl, hB⟩
                            have D_312 : Row y311 D 23 (u8s e1) := D_310.old hB
                            have E_312 : Row y311 E 23 (u8s e2) := E_310.old hB
                            have Y_312 : Row y311 Y 29 (dgC L) := Y_310.old hB
                            have Z_312 : Row y311 Z 29 (dgC M) := Z_310.old hB
                            have A_312 : Row y311 A 23 (u8s e1) := A_310.old hB
                            have B_312 : Row y311 B 23 (u8s e2) := B_310.old hB
                            have bel_312 : Below w.heap.size w y311 := below_step bel_310 bel_310.size hB
                            clear D_310 E_310 Y_310 Z_310 A_310 B_310 bel_310 hB
                            refine ⟨_, rfl, ⟨Y_312, Z_312, trivial⟩, ?_⟩
                            simp only [Act.put, List.setIfInBounds_toArray, List.set_cons_zero, List.set_cons_succ]
                            refine h_one (i := 9) (by kernel_rfl) (o_value (.agg (u8s e2).toArray) rfl 107 rfl (by kernel_rfl) (run_op_load _ _ rfl E 0 rfl (u8s e2) ((Has.refl _).range E_312) (szH KE2.out)) ?_)
                            refine ⟨⟨Y_312, Z_312, trivial⟩, ?_⟩
                            simp only [Act.put, List.setIfInBounds_toArray, List.set_cons_zero, List.set_cons_succ]
                            refine h_one (i := 13) (by kernel_rfl) (o_call rfl 111 rfl (by kernel_rfl) (run_op_call 28 _ _ rfl #[.int .i64 ((k + 1 : Nat) : Int), .agg (u8s e2).toArray, .agg (u8s x2).toArray] (by simp only [List.map_toArray, List.map_cons, List.map_nil]; rfl) Tryd.func28 (by kernel_rfl) (by kernel_rfl) _) (CJ2.out _ (HKW.out _ bel_312)) ?_)
                            rintro e y313 ⟨rfl, hB⟩
                            have D_314 : Row y313 D 23 (u8s e1) := D_312.old hB
                            have E_314 : Row y313 E 23 (u8s e2) := E_312.old hB
                            have Y_314 : Row y313 Y 29 (dgC L) := Y_312.old hB
                            have Z_314 : Row y313 Z 29 (dgC M) := Z_312.old hB
                            have A_314 : Row y313 A 23 (u8s e1) := A_312.old hB
                            have B_314 : Row y313 B 23 (u8s e2) := B_312.old hB
                            have bel_314 : Below w.heap.size w y313 := below_step bel_312 bel_312.size hB
                            clear D_312 E_312 Y_312 Z_312 A_312 B_312 bel_312 hB
                            refine ⟨_, rfl, ⟨Y_314, Z_314, trivial⟩, ?_⟩
                            simp only [Act.put, List.setIfInBounds_toArray, List.set_cons_zero, List.set_cons_succ]
                            refine h_one (i := 14) (by kernel_rfl) (o_skip rfl rfl (by kernel_rfl) (run_op_store _ _ _ rfl D (0) rfl (u8s n1) rfl _ _ D_314 (by rw [h_len KN1.out, h_len KE1.out]; omega) (u8s_one _) (szH KN1.out)) ?_)
                            have rq := row_setRow D_314 (lay (u8s e1) (0) (u8s n1))
                            have oq := Only.setRow D y313 (lay (u8s e1) (0) (u8s n1)).toArray
                            generalize y313.setRow D (lay (u8s e1) (0) (u8s n1)).toArray = y315 at rq oq ⊢
                            have D_316 : Row y315 D 23 (u8s n1) := rq.congr (lay_all _ _ (by rw [h_len KN1.out, h_len KE1.out]))
                            have E_316 : Row y315 E 23 (u8s e2) := E_314.only oq nDE.symm
                            have Y_316 : Row y315 Y 29 (dgC L) := Y_314.only oq nYD
                            have Z_316 : Row y315 Z 29 (dgC M) := Z_314.only oq nZD
                            have A_316 : Row y315 A 23 (u8s e1) := A_314.only oq neDA.symm
                            have B_316 : Row y315 B 23 (u8s e2) := B_314.only oq neDB.symm
                            have bel_316 : Below w.heap.size w y315 := below_only bel_314 oq geD bel_314.size
                            clear D_314 E_314 Y_314 Z_314 A_314 B_314 bel_314 oq
                            clear rq
                            refine ⟨⟨Y_316, Z_316, trivial⟩, ?_⟩
                            refine h_one (i := 15) (by kernel_rfl) (o_skip rfl rfl (by kernel_rfl) (run_op_store _ _ _ rfl E (0) rfl (u8s n2) rfl _ _ E_316 (by rw [h_len KN2.out, h_len KE2.out]; omega) (u8s_one _) (szH KN2.out)) ?_)
                            have rq := row_setRow E_316 (lay (u8s e2) (0) (u8s n2))
                            have oq := Only.setRow E y315 (lay (u8s e2) (0) (u8s n2)).toArray
                            generalize y315.setRow E (lay (u8s e2) (0) (u8s n2)).toArray = y317 at rq oq ⊢
                            have D_318 : Row y317 D 23 (u8s n1) := D_316.only oq nDE
                            have E_318 : Row y317 E 23 (u8s n2) := rq.congr (lay_all _ _ (by rw [h_len KN2.out, h_len KE2.out]))
                            have Y_318 : Row y317 Y 29 (dgC L) := Y_316.only oq nYE
                            have Z_318 : Row y317 Z 29 (dgC M) := Z_316.only oq nZE
                            have A_318 : Row y317 A 23 (u8s e1) := A_316.only oq neEA.symm
                            have B_318 : Row y317 B 23 (u8s e2) := B_316.only oq neEB.symm
                            have bel_318 : Below w.heap.size w y317 := below_only bel_316 oq geE bel_316.size
                            clear D_316 E_316 Y_316 Z_316 A_316 B_316 bel_316 oq
                            clear rq
                            refine ⟨⟨Y_318, Z_318, trivial⟩, ?_⟩
                            refine wpAnyH_done (by kernel_rfl) ?_ _
                            go_wp2_with fail
                            go_meet
                            exact ⟨rfl, D_318, E_318, A_318, B_318, Y_318, Z_318, bel_318⟩
                          · skip
                            refine o_value (.agg (u8s e2).toArray) rfl 107 rfl (by kernel_rfl) (run_op_load _ _ rfl E 0 rfl (u8s e2) ((Has.refl _).range E_310) (szH KE2.out)) ?_
                            refine ⟨⟨Y_310, Z_310, trivial⟩, ?_⟩
                            simp only [Act.put, List.setIfInBounds_toArray, List.set_cons_zero, List.set_cons_succ]
                            refine h_one (i := 6) (by kernel_rfl) (o_call rfl 104 rfl (by kernel_rfl) (run_op_call 28 _ _ rfl #[.int .i64 ((k + 1 : Nat) : Int), .agg (u8s e1).toArray, .agg (u8s x1).toArray] (by simp only [List.map_toArray, List.map_cons, List.map_nil]; rfl) Tryd.func28 (by kernel_rfl) (by kernel_rfl) _) (CJ1.out _ (HKW.out _ bel_310)) ?_)
                            rintro e y311 ⟨rfl, hB⟩
                            have D_312 : Row y311 D 23 (u8s e1) := D_310.old hB
                            have E_312 : Row y311 E 23 (u8s e2) := E_310.old hB
                            have Y_312 : Row y311 Y 29 (dgC L) := Y_310.old hB
                            have Z_312 : Row y311 Z 29 (dgC M) := Z_310.old hB
                            have A_312 : Row y311 A 23 (u8s e1) := A_310.old hB
                            have B_312 : Row y311 B 23 (u8s e2) := B_310.old hB
                            have bel_312 : Below w.heap.size w y311 := below_step bel_310 bel_310.size hB
                            clear D_310 E_310 Y_310 Z_310 A_310 B_310 bel_310 hB
                            refine ⟨_, rfl, ⟨Y_312, Z_312, trivial⟩, ?_⟩
                            simp only [Act.put, List.setIfInBounds_toArray, List.set_cons_zero, List.set_cons_succ]
                            refine h_one (i := 13) (by kernel_rfl) (o_call rfl 111 rfl (by kernel_rfl) (run_op_call 28 _ _ rfl #[.int .i64 ((k + 1 : Nat) : Int), .agg (u8s e2).toArray, .agg (u8s x2).toArray] (by simp only [List.map_toArray, List.map_cons, List.map_nil]; rfl) Tryd.func28 (by kernel_rfl) (by kernel_rfl) _) (CJ2.out _ (HKW.out _ bel_312)) ?_)
                            rintro e y313 ⟨rfl, hB⟩
                            have D_314 : Row y313 D 23 (u8s e1) := D_312.old hB
                            have E_314 : Row y313 E 23 (u8s e2) := E_312.old hB
                            have Y_314 : Row y313 Y 29 (dgC L) := Y_312.old hB
                            have Z_314 : Row y313 Z 29 (dgC M) := Z_312.old hB
                            have A_314 : Row y313 A 23 (u8s e1) := A_312.old hB
                            have B_314 : Row y313 B 23 (u8s e2) := B_312.old hB
                            have bel_314 : Below w.heap.size w y313 := below_step bel_312 bel_312.size hB
                            clear D_312 E_312 Y_312 Z_312 A_312 B_312 bel_312 hB
                            refine ⟨_, rfl, ⟨Y_314, Z_314, trivial⟩, ?_⟩
                            simp only [Act.put, List.setIfInBounds_toArray, List.set_cons_zero, List.set_cons_succ]
                            refine h_one (i := 14) (by kernel_rfl) (o_skip rfl rfl (by kernel_rfl) (run_op_store _ _ _ rfl D (0) rfl (u8s n1) rfl _ _ D_314 (by rw [h_len KN1.out, h_len KE1.out]; omega) (u8s_one _) (szH KN1.out)) ?_)
                            have rq := row_setRow D_314 (lay (u8s e1) (0) (u8s n1))
                            have oq := Only.setRow D y313 (lay (u8s e1) (0) (u8s n1)).toArray
                            generalize y313.setRow D (lay (u8s e1) (0) (u8s n1)).toArray = y315 at rq oq ⊢
                            have D_316 : Row y315 D 23 (u8s n1) := rq.congr (lay_all _ _ (by rw [h_len KN1.out, h_len KE1.out]))
                            have E_316 : Row y315 E 23 (u8s e2) := E_314.only oq nDE.symm
                            have Y_316 : Row y315 Y 29 (dgC L) := Y_314.only oq nYD
                            have Z_316 : Row y315 Z 29 (dgC M) := Z_314.only oq nZD
                            have A_316 : Row y315 A 23 (u8s e1) := A_314.only oq neDA.symm
                            have B_316 : Row y315 B 23 (u8s e2) := B_314.only oq neDB.symm
                            have bel_316 : Below w.heap.size w y315 := below_only bel_314 oq geD bel_314.size
                            clear D_314 E_314 Y_314 Z_314 A_314 B_314 bel_314 oq
                            clear rq
                            refine ⟨⟨Y_316, Z_316, trivial⟩, ?_⟩
                            refine h_one (i := 15) (by kernel_rfl) (o_skip rfl rfl (by kernel_rfl) (run_op_store _ _ _ rfl E (0) rfl (u8s n2) rfl _ _ E_316 (by rw [h_len KN2.out, h_len KE2.out]; omega) (u8s_one _) (szH KN2.out)) ?_)
                            have rq := row_setRow E_316 (lay (u8s e2) (0) (u8s n2))
                            have oq := Only.setRow E y315 (lay (u8s e2) (0) (u8s n2)).toArray
                            generalize y315.setRow E (lay (u8s e2) (0) (u8s n2)).toArray = y317 at rq oq ⊢
                            have D_318 : Row y317 D 23 (u8s n1) := D_316.only oq nDE
                            have E_318 : Row y317 E 23 (u8s n2) := rq.congr (lay_all _ _ (by rw [h_len KN2.out, h_len KE2.out]))
                            have Y_318 : Row y317 Y 29 (dgC L) := Y_316.only oq nYE
                            have Z_318 : Row y317 Z 29 (dgC M) := Z_316.only oq nZE
                            have A_318 : Row y317 A 23 (u8s e1) := A_316.only oq neEA.symm
                            have B_318 : Row y317 B 23 (u8s e2) := B_316.only oq neEB.symm
                            have bel_318 : Below w.heap.size w y317 := below_only bel_316 oq geE bel_316.size
                            clear D_316 E_316 Y_316 Z_316 A_316 B_316 bel_316 oq
                            clear rq
                            refine ⟨⟨Y_318, Z_318, trivial⟩, ?_⟩
                            refine wpAnyH_done (by kernel_rfl) ?_ _
                            go_wp2_with fail
                            go_meet
                            exact ⟨rfl, D_318, E_318, A_318, B_318, Y_318, Z_318, bel_318⟩
                        · skip
                          refine o_value (.agg (u8s e2).toArray) rfl 107 rfl (by kernel_rfl) (run_op_load _ _ rfl E 0 rfl (u8s e2) ((Has.refl _).range E_310) (szH KE2.out)) ?_
                          refine ⟨⟨Y_310, Z_310, trivial⟩, ?_⟩
                          simp only [Act.put, List.setIfInBounds_toArray, List.set_cons_zero, List.set_cons_succ]
                          refine h_one (i := 2) (by kernel_rfl) (o_value (.agg (u8s e1).toArray) rfl 100 rfl (by kernel_rfl) (run_op_load _ _ rfl D 0 rfl (u8s e1) ((Has.refl _).range D_310) (szH KE1.out)) ?_)
                          refine ⟨⟨Y_310, Z_310, trivial⟩, ?_⟩
                          simp only [Act.put, List.setIfInBounds_toArray, List.set_cons_zero, List.set_cons_succ]
                          refine h_one (i := 6) (by kernel_rfl) (o_call rfl 104 rfl (by kernel_rfl) (run_op_call 28 _ _ rfl #[.int .i64 ((k + 1 : Nat) : Int), .agg (u8s e1).toArray, .agg (u8s x1).toArray] (by simp only [List.map_toArray, List.map_cons, List.map_nil]; rfl) Tryd.func28 (by kernel_rfl) (by kernel_rfl) _) (CJ1.out _ (HKW.out _ bel_310)) ?_)
                          rintro e y311 ⟨rfl, hB⟩
                          have D_312 : Row y311 D 23 (u8s e1) := D_310.old hB
                          have E_312 : Row y311 E 23 (u8s e2) := E_310.old hB
                          have Y_312 : Row y311 Y 29 (dgC L) := Y_310.old hB
                          have Z_312 : Row y311 Z 29 (dgC M) := Z_310.old hB
                          have A_312 : Row y311 A 23 (u8s e1) := A_310.old hB
                          have B_312 : Row y311 B 23 (u8s e2) := B_310.old hB
                          have bel_312 : Below w.heap.size w y311 := below_step bel_310 bel_310.size hB
                          clear D_310 E_310 Y_310 Z_310 A_310 B_310 bel_310 hB
                          refine ⟨_, rfl, ⟨Y_312, Z_312, trivial⟩, ?_⟩
                          simp only [Act.put, List.setIfInBounds_toArray, List.set_cons_zero, List.set_cons_succ]
                          refine h_one (i := 13) (by kernel_rfl) (o_call rfl 111 rfl (by kernel_rfl) (run_op_call 28 _ _ rfl #[.int .i64 ((k + 1 : Nat) : Int), .agg (u8s e2).toArray, .agg (u8s x2).toArray] (by simp only [List.map_toArray, List.map_cons, List.map_nil]; rfl) Tryd.func28 (by kernel_rfl) (by kernel_rfl) _) (CJ2.out _ (HKW.out _ bel_312)) ?_)
                          rintro e y313 ⟨rfl, hB⟩
                          have D_314 : Row y313 D 23 (u8s e1) := D_312.old hB
                          have E_314 : Row y313 E 23 (u8s e2) := E_312.old hB
                          have Y_314 : Row y313 Y 29 (dgC L) := Y_312.old hB
                          have Z_314 : Row y313 Z 29 (dgC M) := Z_312.old hB
                          have A_314 : Row y313 A 23 (u8s e1) := A_312.old hB
                          have B_314 : Row y313 B 23 (u8s e2) := B_312.old hB
                          have bel_314 : Below w.heap.size w y313 := below_step bel_312 bel_312.size hB
                          clear D_312 E_312 Y_312 Z_312 A_312 B_312 bel_312 hB
                          refine ⟨_, rfl, ⟨Y_314, Z_314, trivial⟩, ?_⟩
                          simp only [Act.put, List.setIfInBounds_toArray, List.set_cons_zero, List.set_cons_succ]
                          refine h_one (i := 14) (by kernel_rfl) (o_skip rfl rfl (by kernel_rfl) (run_op_store _ _ _ rfl D (0) rfl (u8s n1) rfl _ _ D_314 (by rw [h_len KN1.out, h_len KE1.out]; omega) (u8s_one _) (szH KN1.out)) ?_)
                          have rq := row_setRow D_314 (lay (u8s e1) (0) (u8s n1))
                          have oq := Only.setRow D y313 (lay (u8s e1) (0) (u8s n1)).toArray
                          generalize y313.setRow D (lay (u8s e1) (0) (u8s n1)).toArray = y315 at rq oq ⊢
                          have D_316 : Row y315 D 23 (u8s n1) := rq.congr (lay_all _ _ (by rw [h_len KN1.out, h_len KE1.out]))
                          have E_316 : Row y315 E 23 (u8s e2) := E_314.only oq nDE.symm
                          have Y_316 : Row y315 Y 29 (dgC L) := Y_314.only oq nYD
                          have Z_316 : Row y315 Z 29 (dgC M) := Z_314.only oq nZD
                          have A_316 : Row y315 A 23 (u8s e1) := A_314.only oq neDA.symm
                          have B_316 : Row y315 B 23 (u8s e2) := B_314.only oq neDB.symm
                          have bel_316 : Below w.heap.size w y315 := below_only bel_314 oq geD bel_314.size
                          clear D_314 E_314 Y_314 Z_314 A_314 B_314 bel_314 oq
                          clear rq
                          refine ⟨⟨Y_316, Z_316, trivial⟩, ?_⟩
                          refine h_one (i := 15) (by kernel_rfl) (o_skip rfl rfl (by kernel_rfl) (run_op_store _ _ _ rfl E (0) rfl (u8s n2) rfl _ _ E_316 (by rw [h_len KN2.out, h_len KE2.out]; omega) (u8s_one _) (szH KN2.out)) ?_)
                          have rq := row_setRow E_316 (lay (u8s e2) (0) (u8s n2))
                          have oq := Only.setRow E y315 (lay (u8s e2) (0) (u8s n2)).toArray
                          generalize y315.setRow E (lay (u8s e2) (0) (u8s n2)).toArray = y317 at rq oq ⊢
                          have D_318 : Row y317 D 23 (u8s n1) := D_316.only oq nDE
                          have E_318 : Row y317 E 23 (u8s n2) := rq.congr (lay_all _ _ (by rw [h_len KN2.out, h_len KE2.out]))
                          have Y_318 : Row y317 Y 29 (dgC L) := Y_316.only oq nYE
                          have Z_318 : Row y317 Z 29 (dgC M) := Z_316.only oq nZE
                          have A_318 : Row y317 A 23 (u8s e1) := A_316.only oq neEA.symm
                          have B_318 : Row y317 B 23 (u8s e2) := B_316.only oq neEB.symm
                          have bel_318 : Below w.heap.size w y317 := below_only bel_316 oq geE bel_316.size
                          clear D_316 E_316 Y_316 Z_316 A_316 B_316 bel_316 oq
                          clear rq
                          refine ⟨⟨Y_318, Z_318, trivial⟩, ?_⟩
                          refine wpAnyH_done (by kernel_rfl) ?_ _
                          go_wp2_with fail
                          go_meet
                          exact ⟨rfl, D_318, E_318, A_318, B_318, Y_318, Z_318, bel_318⟩
                      case rest =>
                        obtain ⟨rfl, rD, rE, rA, rB, rY, rZ, belc⟩ := hcut
                        clear D_308 E_308 Y_308 Z_308 A_308 B_308 bel_308
                        go_wp2_with fail
                        by_cases hq1 : n1 = n2
                        · have HQ1 := Lib.hid hq1
                          clear hq1
                          by_cases hq2 : e1 = e2
                          · have HQ2 := Lib.hid hq2
                            clear hq2
                            by_cases hq3 : x1 = x2
                            · have HQ3 := Lib.hid hq3
                              clear hq3
                              refine wp_region_held (S := fun w' => Row w' D 23 (u8s n1) ∧ Row w' E 23 (u8s n2) ∧ Row w' A 23 (u8s e1) ∧ Row w' B 23 (u8s e2) ∧ Row w' Y 29 (dgC L) ∧ Row w' Z 29 (dgC M) ∧ True) (by kernel_rfl) ?_
                              change wpAnyH _ _ _ _ _ _ _ _ wc.drew
                              have hd359 : Below wc.heap.size wc wc.drew := (Below.refl _ _).drew
                              have D_360 : Row wc.drew D 23 (u8s n1) := rD.old hd359
                              have E_360 : Row wc.drew E 23 (u8s n2) := rE.old hd359
                              have Y_360 : Row wc.drew Y 29 (dgC L) := rY.old hd359
                              have Z_360 : Row wc.drew Z 29 (dgC M) := rZ.old hd359
                              have A_360 : Row wc.drew A 23 (u8s e1) := rA.old hd359
                              have B_360 : Row wc.drew B 23 (u8s e2) := rB.old hd359
                              have bel_360 : Below w.heap.size w wc.drew := below_step belc belc.size hd359
                              clear rD rE rY rZ rA rB belc hd359
                              generalize wc.drew = yz359 at D_360 E_360 Y_360 Z_360 A_360 B_360 bel_360 ⊢
                              refine h_take 0 (.agg (u8s n1).toArray) rfl 126 rfl (by kernel_rfl) (by kernel_rfl) (by kernel_rfl) (by kernel_rfl) (fun _ _ _ h => h) (fun w' hw => run_op_load _ _ rfl D (0) rfl (u8s n1) (((Has.refl _)).range hw.1) ((szH KN1.out))) ⟨D_360, E_360, A_360, B_360, Y_360, Z_360, trivial⟩ ?_
                              simp only [Act.put, List.setIfInBounds_toArray, List.set_cons_zero, List.set_cons_succ]
                              refine h_take 1 (.agg (u8s n2).toArray) rfl 127 rfl (by kernel_rfl) (by kernel_rfl) (by kernel_rfl) (by kernel_rfl) (fun _ _ _ h => h) (fun w' hw => run_op_load _ _ rfl E (0) rfl (u8s n2) (((Has.refl _)).range hw.2.1) ((szH KN2.out))) ⟨D_360, E_360, A_360, B_360, Y_360, Z_360, trivial⟩ ?_
                              simp only [Act.put, List.setIfInBounds_toArray, List.set_cons_zero, List.set_cons_succ]
                              refine h_take 2 (.bool true) rfl 128 rfl (by kernel_rfl) (by kernel_rfl) (by kernel_rfl) (by kernel_rfl) (fun _ _ _ h => h) (fun w' _ => run_op_eqlD KN1.out KN2.out _ _ _ rfl rfl rfl true (iff_of_true rfl HQ1.out) w') ⟨D_360, E_360, A_360, B_360, Y_360, Z_360, trivial⟩ ?_
                              simp only [Act.put, List.setIfInBounds_toArray, List.set_cons_zero, List.set_cons_succ]
                              refine h_take 3 (.bool true) rfl 129 rfl (by kernel_rfl) (by kernel_rfl) (by kernel_rfl) (by kernel_rfl) (fun _ _ _ h => h) (fun w' _ => by kernel_rfl) ⟨D_360, E_360, A_360, B_360, Y_360, Z_360, trivial⟩ ?_
                              simp only [Act.put, List.setIfInBounds_toArray, List.set_cons_zero, List.set_cons_succ]
                              refine h_take 4 (.agg (u8s e1).toArray) rfl 130 rfl (by kernel_rfl) (by kernel_rfl) (by kernel_rfl) (by kernel_rfl) (fun _ _ _ h => h) (fun w' hw => run_op_load _ _ rfl A (0) rfl (u8s e1) (((Has.refl _)).range hw.2.2.1) ((szH KE1.out))) ⟨D_360, E_360, A_360, B_360, Y_360, Z_360, trivial⟩ ?_
                              simp only [Act.put, List.setIfInBounds_toArray, List.set_cons_zero, List.set_cons_succ]
                              refine h_take 5 (.agg (u8s e2).toArray) rfl 131 rfl (by kernel_rfl) (by kernel_rfl) (by kernel_rfl) (by kernel_rfl) (fun _ _ _ h => h) (fun w' hw => run_op_load _ _ rfl B (0) rfl (u8s e2) (((Has.refl _)).range hw.2.2.2.1) ((szH KE2.out))) ⟨D_360, E_360, A_360, B_360, Y_360, Z_360, trivial⟩ ?_
                              simp only [Act.put, List.setIfInBounds_toArray, List.set_cons_zero, List.set_cons_succ]
                              refine h_take 6 (.bool false) rfl 132 rfl (by kernel_rfl) (by kernel_rfl) (by kernel_rfl) (by kernel_rfl) (fun _ _ _ h => h) (fun w' _ => run_op_neqD KE1.out KE2.out _ _ _ rfl rfl rfl true (iff_of_true rfl HQ2.out) w') ⟨D_360, E_360, A_360, B_360, Y_360, Z_360, trivial⟩ ?_
                              simp only [Act.put, List.setIfInBounds_toArray, List.set_cons_zero, List.set_cons_succ]
                              refine h_take 7 (.bool false) rfl 133 rfl (by kernel_rfl) (by kernel_rfl) (by kernel_rfl) (by kernel_rfl) (fun _ _ _ h => h) (fun w' _ => by kernel_rfl) ⟨D_360, E_360, A_360, B_360, Y_360, Z_360, trivial⟩ ?_
                              simp only [Act.put, List.setIfInBounds_toArray, List.set_cons_zero, List.set_cons_succ]
                              refine h_take 8 (.int .i64 (k : Int)) rfl 134 rfl (by kernel_rfl) (by kernel_rfl) (by kernel_rfl) (by kernel_rfl) (fun _ _ _ h => h) (fun w' _ => by kernel_rfl) ⟨D_360, E_360, A_360, B_360, Y_360, Z_360, trivial⟩ ?_
                              simp only [Act.put, List.setIfInBounds_toArray, List.set_cons_zero, List.set_cons_succ]
                              refine h_take 9 (.pointer (some ⟨Y, 32 * k, none⟩)) rfl 135 rfl (by kernel_rfl) (by kernel_rfl) (by kernel_rfl) (by kernel_rfl) (fun _ _ _ h => h) (fun w' _ => run_op_arr _ _ _ rfl 4 23 32 (by kernel_rfl) (by kernel_rfl) Y 0 rfl .i64 _ rfl k rfl HLK.out (32 * k) (by omega) w') ⟨D_360, E_360, A_360, B_360, Y_360, Z_360, trivial⟩ ?_
                              simp only [Act.put, List.setIfInBounds_toArray, List.set_cons_zero, List.set_cons_succ]
                              refine h_take 10 (.agg (u8s x1).toArray) rfl 136 rfl (by kernel_rfl) (by kernel_rfl) (by kernel_rfl) (by kernel_rfl) (fun _ _ _ h => h) (fun w' hw => run_op_load _ _ rfl Y (32 * k) rfl (u8s x1) ((HP1.out).range hw.2.2.2.2.1) ((szH KX1.out))) ⟨D_360, E_360, A_360, B_360, Y_360, Z_360, trivial⟩ ?_
                              simp only [Act.put, List.setIfInBounds_toArray, List.set_cons_zero, List.set_cons_succ]
                              refine h_take 11 (.int .i64 (k : Int)) rfl 137 rfl (by kernel_rfl) (by kernel_rfl) (by kernel_rfl) (by kernel_rfl) (fun _ _ _ h => h) (fun w' _ => by kernel_rfl) ⟨D_360, E_360, A_360, B_360, Y_360, Z_360, trivial⟩ ?_
                              simp only [Act.put, List.setIfInBounds_toArray, List.set_cons_zero, List.set_cons_succ]
                              refine h_take 12 (.pointer (some ⟨Z, 32 * k, none⟩)) rfl 138 rfl (by kernel_rfl) (by kernel_rfl) (by kernel_rfl) (by kernel_rfl) (fun _ _ _ h => h) (fun w' _ => run_op_arr _ _ _ rfl 4 23 32 (by kernel_rfl) (by kernel_rfl) Z 0 rfl .i64 _ rfl k rfl HLK.out (32 * k) (by omega) w') ⟨D_360, E_360, A_360, B_360, Y_360, Z_360, trivial⟩ ?_
                              simp only [Act.put, List.setIfInBounds_toArray, List.set_cons_zero, List.set_cons_succ]
                              refine h_take 13 (.agg (u8s x2).toArray) rfl 139 rfl (by kernel_rfl) (by kernel_rfl) (by kernel_rfl) (by kernel_rfl) (fun _ _ _ h => h) (fun w' hw => run_op_load _ _ rfl Z (32 * k) rfl (u8s x2) ((HP2.out).range hw.2.2.2.2.2.1) ((szH KX2.out))) ⟨D_360, E_360, A_360, B_360, Y_360, Z_360, trivial⟩ ?_
                              simp only [Act.put, List.setIfInBounds_toArray, List.set_cons_zero, List.set_cons_succ]
                              refine h_take 14 (.bool false) rfl 140 rfl (by kernel_rfl) (by kernel_rfl) (by kernel_rfl) (by kernel_rfl) (fun _ _ _ h => h) (fun w' _ => run_op_neqD KX1.out KX2.out _ _ _ rfl rfl rfl true (iff_of_true rfl HQ3.out) w') ⟨D_360, E_360, A_360, B_360, Y_360, Z_360, trivial⟩ ?_
                              simp only [Act.put, List.setIfInBounds_toArray, List.set_cons_zero, List.set_cons_succ]
                              refine h_take 15 (.bool false) rfl 141 rfl (by kernel_rfl) (by kernel_rfl) (by kernel_rfl) (by kernel_rfl) (fun _ _ _ h => h) (fun w' _ => by kernel_rfl) ⟨D_360, E_360, A_360, B_360, Y_360, Z_360, trivial⟩ ?_
                              simp only [Act.put, List.setIfInBounds_toArray, List.set_cons_zero, List.set_cons_succ]
                              refine h_take 16 (.bool false) rfl 142 rfl (by kernel_rfl) (by kernel_rfl) (by kernel_rfl) (by kernel_rfl) (fun _ _ _ h => h) (fun w' _ => by kernel_rfl) ⟨D_360, E_360, A_360, B_360, Y_360, Z_360, trivial⟩ ?_
                              simp only [Act.put, List.setIfInBounds_toArray, List.set_cons_zero, List.set_cons_succ]
                              refine wpAnyH_done (by kernel_rfl) ?_ _
                              go_wp2_with fail
                              try simp only [Act.put]
                              go_roundw
                              case rel => exact ⟨⟨k + 1, by omega, by go_num, HN1.out ▸ D_360, HN2.out ▸ E_360, fun j hj => by
                                rcases Nat.lt_or_ge j k with h | h
                                · exact HNO.out j h
                                · obtain rfl : j = k := by omega
                                  exact fun hh => hh.2.elim (fun g => g (by rw [← HE1.out, ← HE2.out]; exact HQ2.out)) (fun g => g (by rw [← HX1.out, ← HX2.out]; exact HQ3.out))⟩, Y_360, Z_360, bel_360⟩
                              case measure => simp [intOf]; omega
                            · have HQ3 := Lib.hid hq3
                              clear hq3
                              refine wp_region_held (S := fun w' => Row w' D 23 (u8s n1) ∧ Row w' E 23 (u8s n2) ∧ Row w' A 23 (u8s e1) ∧ Row w' B 23 (u8s e2) ∧ Row w' Y 29 (dgC L) ∧ Row w' Z 29 (dgC M) ∧ True) (by kernel_rfl) ?_
                              change wpAnyH _ _ _ _ _ _ _ _ wc.drew
                              have hd359 : Below wc.heap.size wc wc.drew := (Below.refl _ _).drew
                              have D_360 : Row wc.drew D 23 (u8s n1) := rD.old hd359
                              have E_360 : Row wc.drew E 23 (u8s n2) := rE.old hd359
                              have Y_360 : Row wc.drew Y 29 (dgC L) := rY.old hd359
                              have Z_360 : Row wc.drew Z 29 (dgC M) := rZ.old hd359
                              have A_360 : Row wc.drew A 23 (u8s e1) := rA.old hd359
                              have B_360 : Row wc.drew B 23 (u8s e2) := rB.old hd359
                              have bel_360 : Below w.heap.size w wc.drew := below_step belc belc.size hd359
                              clear rD rE rY rZ rA rB belc hd359
                              generalize wc.drew = yz359 at D_360 E_360 Y_360 Z_360 A_360 B_360 bel_360 ⊢
                              refine h_take 0 (.agg (u8s n1).toArray) rfl 126 rfl (by kernel_rfl) (by kernel_rfl) (by kernel_rfl) (by kernel_rfl) (fun _ _ _ h => h) (fun w' hw => run_op_load _ _ rfl D (0) rfl (u8s n1) (((Has.refl _)).range hw.1) ((szH KN1.out))) ⟨D_360, E_360, A_360, B_360, Y_360, Z_360, trivial⟩ ?_
                              simp only [Act.put, List.setIfInBounds_toArray, List.set_cons_zero, List.set_cons_succ]
                              refine h_take 1 (.agg (u8s n2).toArray) rfl 127 rfl (by kernel_rfl) (by kernel_rfl) (by kernel_rfl) (by kernel_rfl) (fun _ _ _ h => h) (fun w' hw => run_op_load _ _ rfl E (0) rfl (u8s n2) (((Has.refl _)).range hw.2.1) ((szH KN2.out))) ⟨D_360, E_360, A_360, B_360, Y_360, Z_360, trivial⟩ ?_
                              simp only [Act.put, List.setIfInBounds_toArray, List.set_cons_zero, List.set_cons_succ]
                              refine h_take 2 (.bool true) rfl 128 rfl (by kernel_rfl) (by kernel_rfl) (by kernel_rfl) (by kernel_rfl) (fun _ _ _ h => h) (fun w' _ => run_op_eqlD KN1.out KN2.out _ _ _ rfl rfl rfl true (iff_of_true rfl HQ1.out) w') ⟨D_360, E_360, A_360, B_360, Y_360, Z_360, trivial⟩ ?_
                              simp only [Act.put, List.setIfInBounds_toArray, List.set_cons_zero, List.set_cons_succ]
                              refine h_take 3 (.bool true) rfl 129 rfl (by kernel_rfl) (by kernel_rfl) (by kernel_rfl) (by kernel_rfl) (fun _ _ _ h => h) (fun w' _ => by kernel_rfl) ⟨D_360, E_360, A_360, B_360, Y_360, Z_360, trivial⟩ ?_
                              simp only [Act.put, List.setIfInBounds_toArray, List.set_cons_zero, List.set_cons_succ]
                              refine h_take 4 (.agg (u8s e1).toArray) rfl 130 rfl (by kernel_rfl) (by kernel_rfl) (by kernel_rfl) (by kernel_rfl) (fun _ _ _ h => h) (fun w' hw => run_op_load _ _ rfl A (0) rfl (u8s e1) (((Has.refl _)).range hw.2.2.1) ((szH KE1.out))) ⟨D_360, E_360, A_360, B_360, Y_360, Z_360, trivial⟩ ?_
                              simp only [Act.put, List.setIfInBounds_toArray, List.set_cons_zero, List.set_cons_succ]
                              refine h_take 5 (.agg (u8s e2).toArray) rfl 131 rfl (by kernel_rfl) (by kernel_rfl) (by kernel_rfl) (by kernel_rfl) (fun _ _ _ h => h) (fun w' hw => run_op_load _ _ rfl B (0) rfl (u8s e2) (((Has.refl _)).range hw.2.2.2.1) ((szH KE2.out))) ⟨D_360, E_360, A_360, B_360, Y_360, Z_360, trivial⟩ ?_
                              simp only [Act.put, List.setIfInBounds_toArray, List.set_cons_zero, List.set_cons_succ]
                              refine h_take 6 (.bool false) rfl 132 rfl (by kernel_rfl) (by kernel_rfl) (by kernel_rfl) (by kernel_rfl) (fun _ _ _ h => h) (fun w' _ => run_op_neqD KE1.out KE2.out _ _ _ rfl rfl rfl true (iff_of_true rfl HQ2.out) w') ⟨D_360, E_360, A_360, B_360, Y_360, Z_360, trivial⟩ ?_
                              simp only [Act.put, List.setIfInBounds_toArray, List.set_cons_zero, List.set_cons_succ]
                              refine h_take 7 (.bool false) rfl 133 rfl (by kernel_rfl) (by kernel_rfl) (by kernel_rfl) (by kernel_rfl) (fun _ _ _ h => h) (fun w' _ => by kernel_rfl) ⟨D_360, E_360, A_360, B_360, Y_360, Z_360, trivial⟩ ?_
                              simp only [Act.put, List.setIfInBounds_toArray, List.set_cons_zero, List.set_cons_succ]
                              refine h_take 8 (.int .i64 (k : Int)) rfl 134 rfl (by kernel_rfl) (by kernel_rfl) (by kernel_rfl) (by kernel_rfl) (fun _ _ _ h => h) (fun w' _ => by kernel_rfl) ⟨D_360, E_360, A_360, B_360, Y_360, Z_360, trivial⟩ ?_
                              simp only [Act.put, List.setIfInBounds_toArray, List.set_cons_zero, List.set_cons_succ]
                              refine h_take 9 (.pointer (some ⟨Y, 32 * k, none⟩)) rfl 135 rfl (by kernel_rfl) (by kernel_rfl) (by kernel_rfl) (by kernel_rfl) (fun _ _ _ h => h) (fun w' _ => run_op_arr _ _ _ rfl 4 23 32 (by kernel_rfl) (by kernel_rfl) Y 0 rfl .i64 _ rfl k rfl HLK.out (32 * k) (by omega) w') ⟨D_360, E_360, A_360, B_360, Y_360, Z_360, trivial⟩ ?_
                              simp only [Act.put, List.setIfInBounds_toArray, List.set_cons_zero, List.set_cons_succ]
                              refine h_take 10 (.agg (u8s x1).toArray) rfl 136 rfl (by kernel_rfl) (by kernel_rfl) (by kernel_rfl) (by kernel_rfl) (fun _ _ _ h => h) (fun w' hw => run_op_load _ _ rfl Y (32 * k) rfl (u8s x1) ((HP1.out).range hw.2.2.2.2.1) ((szH KX1.out))) ⟨D_360, E_360, A_360, B_360, Y_360, Z_360, trivial⟩ ?_
                              simp only [Act.put, List.setIfInBounds_toArray, List.set_cons_zero, List.set_cons_succ]
                              refine h_take 11 (.int .i64 (k : Int)) rfl 137 rfl (by kernel_rfl) (by kernel_rfl) (by kernel_rfl) (by kernel_rfl) (fun _ _ _ h => h) (fun w' _ => by kernel_rfl) ⟨D_360, E_360, A_360, B_360, Y_360, Z_360, trivial⟩ ?_
                              simp only [Act.put, List.setIfInBounds_toArray, List.set_cons_zero, List.set_cons_succ]
                              refine h_take 12 (.pointer (some ⟨Z, 32 * k, none⟩)) rfl 138 rfl (by kernel_rfl) (by kernel_rfl) (by kernel_rfl) (by kernel_rfl) (fun _ _ _ h => h) (fun w' _ => run_op_arr _ _ _ rfl 4 23 32 (by kernel_rfl) (by kernel_rfl) Z 0 rfl .i64 _ rfl k rfl HLK.out (32 * k) (by omega) w') ⟨D_360, E_360, A_360, B_360, Y_360, Z_360, trivial⟩ ?_
                              simp only [Act.put, List.setIfInBounds_toArray, List.set_cons_zero, List.set_cons_succ]
                              refine h_take 13 (.agg (u8s x2).toArray) rfl 139 rfl (by kernel_rfl) (by kernel_rfl) (by kernel_rfl) (by kernel_rfl) (fun _ _ _ h => h) (fun w' hw => run_op_load _ _ rfl Z (32 * k) rfl (u8s x2) ((HP2.out).range hw.2.2.2.2.2.1) ((szH KX2.out))) ⟨D_360, E_360, A_360, B_360, Y_360, Z_360, trivial⟩ ?_
                              simp only [Act.put, List.setIfInBounds_toArray, List.set_cons_zero, List.set_cons_succ]
                              refine h_take 14 (.bool true) rfl 140 rfl (by kernel_rfl) (by kernel_rfl) (by kernel_rfl) (by kernel_rfl) (fun _ _ _ h => h) (fun w' _ => run_op_neqD KX1.out KX2.out _ _ _ rfl rfl rfl false (iff_of_false Bool.false_ne_true HQ3.out) w') ⟨D_360, E_360, A_360, B_360, Y_360, Z_360, trivial⟩ ?_
                              simp only [Act.put, List.setIfInBounds_toArray, List.set_cons_zero, List.set_cons_succ]
                              refine h_take 15 (.bool true) rfl 141 rfl (by kernel_rfl) (by kernel_rfl) (by kernel_rfl) (by kernel_rfl) (fun _ _ _ h => h) (fun w' _ => by kernel_rfl) ⟨D_360, E_360, A_360, B_360, Y_360, Z_360, trivial⟩ ?_
                              simp only [Act.put, List.setIfInBounds_toArray, List.set_cons_zero, List.set_cons_succ]
                              refine h_take 16 (.bool true) rfl 142 rfl (by kernel_rfl) (by kernel_rfl) (by kernel_rfl) (by kernel_rfl) (fun _ _ _ h => h) (fun w' _ => by kernel_rfl) ⟨D_360, E_360, A_360, B_360, Y_360, Z_360, trivial⟩ ?_
                              simp only [Act.put, List.setIfInBounds_toArray, List.set_cons_zero, List.set_cons_succ]
                              refine wpAnyH_done (by kernel_rfl) ?_ _
                              go_wp2_with fail
                              try simp only [Act.put]
                              go_ret
                              exact ⟨rfl, bel_360⟩
                          · have HQ2 := Lib.hid hq2
                            clear hq2
                            refine wp_region_held (S := fun w' => Row w' D 23 (u8s n1) ∧ Row w' E 23 (u8s n2) ∧ Row w' A 23 (u8s e1) ∧ Row w' B 23 (u8s e2) ∧ Row w' Y 29 (dgC L) ∧ Row w' Z 29 (dgC M) ∧ True) (by kernel_rfl) ?_
                            change wpAnyH _ _ _ _ _ _ _ _ wc.drew
                            have hd359 : Below wc.heap.size wc wc.drew := (Below.refl _ _).drew
                            have D_360 : Row wc.drew D 23 (u8s n1) := rD.old hd359
                            have E_360 : Row wc.drew E 23 (u8s n2) := rE.old hd359
                            have Y_360 : Row wc.drew Y 29 (dgC L) := rY.old hd359
                            have Z_360 : Row wc.drew Z 29 (dgC M) := rZ.old hd359
                            have A_360 : Row wc.drew A 23 (u8s e1) := rA.old hd359
                            have B_360 : Row wc.drew B 23 (u8s e2) := rB.old hd359
                            have bel_360 : Below w.heap.size w wc.drew := below_step belc belc.size hd359
                            clear rD rE rY rZ rA rB belc hd359
                            generalize wc.drew = yz359 at D_360 E_360 Y_360 Z_360 A_360 B_360 bel_360 ⊢
                            refine h_take 0 (.agg (u8s n1).toArray) rfl 126 rfl (by kernel_rfl) (by kernel_rfl) (by kernel_rfl) (by kernel_rfl) (fun _ _ _ h => h) (fun w' hw => run_op_load _ _ rfl D (0) rfl (u8s n1) (((Has.refl _)).range hw.1) ((szH KN1.out))) ⟨D_360, E_360, A_360, B_360, Y_360, Z_360, trivial⟩ ?_
                            simp only [Act.put, List.setIfInBounds_toArray, List.set_cons_zero, List.set_cons_succ]
                            refine h_take 1 (.agg (u8s n2).toArray) rfl 127 rfl (by kernel_rfl) (by kernel_rfl) (by kernel_rfl) (by kernel_rfl) (fun _ _ _ h => h) (fun w' hw => run_op_load _ _ rfl E (0) rfl (u8s n2) (((Has.refl _)).range hw.2.1) ((szH KN2.out))) ⟨D_360, E_360, A_360, B_360, Y_360, Z_360, trivial⟩ ?_
                            simp only [Act.put, List.setIfInBounds_toArray, List.set_cons_zero, List.set_cons_succ]
                            refine h_take 2 (.bool true) rfl 128 rfl (by kernel_rfl) (by kernel_rfl) (by kernel_rfl) (by kernel_rfl) (fun _ _ _ h => h) (fun w' _ => run_op_eqlD KN1.out KN2.out _ _ _ rfl rfl rfl true (iff_of_true rfl HQ1.out) w') ⟨D_360, E_360, A_360, B_360, Y_360, Z_360, trivial⟩ ?_
                            simp only [Act.put, List.setIfInBounds_toArray, List.set_cons_zero, List.set_cons_succ]
                            refine h_take 3 (.bool true) rfl 129 rfl (by kernel_rfl) (by kernel_rfl) (by kernel_rfl) (by kernel_rfl) (fun _ _ _ h => h) (fun w' _ => by kernel_rfl) ⟨D_360, E_360, A_360, B_360, Y_360, Z_360, trivial⟩ ?_
                            simp only [Act.put, List.setIfInBounds_toArray, List.set_cons_zero, List.set_cons_succ]
                            refine h_take 4 (.agg (u8s e1).toArray) rfl 130 rfl (by kernel_rfl) (by kernel_rfl) (by kernel_rfl) (by kernel_rfl) (fun _ _ _ h => h) (fun w' hw => run_op_load _ _ rfl A (0) rfl (u8s e1) (((Has.refl _)).range hw.2.2.1) ((szH KE1.out))) ⟨D_360, E_360, A_360, B_360, Y_360, Z_360, trivial⟩ ?_
                            simp only [Act.put, List.setIfInBounds_toArray, List.set_cons_zero, List.set_cons_succ]
                            refine h_take 5 (.agg (u8s e2).toArray) rfl 131 rfl (by kernel_rfl) (by kernel_rfl) (by kernel_rfl) (by kernel_rfl) (fun _ _ _ h => h) (fun w' hw => run_op_load _ _ rfl B (0) rfl (u8s e2) (((Has.refl _)).range hw.2.2.2.1) ((szH KE2.out))) ⟨D_360, E_360, A_360, B_360, Y_360, Z_360, trivial⟩ ?_
                            simp only [Act.put, List.setIfInBounds_toArray, List.set_cons_zero, List.set_cons_succ]
                            refine h_take 6 (.bool true) rfl 132 rfl (by kernel_rfl) (by kernel_rfl) (by kernel_rfl) (by kernel_rfl) (fun _ _ _ h => h) (fun w' _ => run_op_neqD KE1.out KE2.out _ _ _ rfl rfl rfl false (iff_of_false Bool.false_ne_true HQ2.out) w') ⟨D_360, E_360, A_360, B_360, Y_360, Z_360, trivial⟩ ?_
                            simp only [Act.put, List.setIfInBounds_toArray, List.set_cons_zero, List.set_cons_succ]
                            refine h_take 7 (.bool true) rfl 133 rfl (by kernel_rfl) (by kernel_rfl) (by kernel_rfl) (by kernel_rfl) (fun _ _ _ h => h) (fun w' _ => by kernel_rfl) ⟨D_360, E_360, A_360, B_360, Y_360, Z_360, trivial⟩ ?_
                            simp only [Act.put, List.setIfInBounds_toArray, List.set_cons_zero, List.set_cons_succ]
                            refine h_pass 8 rfl 134 rfl (by kernel_rfl) (by kernel_rfl) (by kernel_rfl) (by kernel_rfl) (fun _ _ _ h => h) ⟨D_360, E_360, A_360, B_360, Y_360, Z_360, trivial⟩ ?_
                            simp only [Act.put, List.setIfInBounds_toArray, List.set_cons_zero, List.set_cons_succ]
                            refine h_pass 9 rfl 135 rfl (by kernel_rfl) (by kernel_rfl) (by kernel_rfl) (by kernel_rfl) (fun _ _ _ h => h) ⟨D_360, E_360, A_360, B_360, Y_360, Z_360, trivial⟩ ?_
                            simp only [Act.put, List.setIfInBounds_toArray, List.set_cons_zero, List.set_cons_succ]
                            refine h_pass 10 rfl 136 rfl (by kernel_rfl) (by kernel_rfl) (by kernel_rfl) (by kernel_rfl) (fun _ _ _ h => h) ⟨D_360, E_360, A_360, B_360, Y_360, Z_360, trivial⟩ ?_
                            simp only [Act.put, List.setIfInBounds_toArray, List.set_cons_zero, List.set_cons_succ]
                            refine h_pass 11 rfl 137 rfl (by kernel_rfl) (by kernel_rfl) (by kernel_rfl) (by kernel_rfl) (fun _ _ _ h => h) ⟨D_360, E_360, A_360, B_360, Y_360, Z_360, trivial⟩ ?_
                            simp only [Act.put, List.setIfInBounds_toArray, List.set_cons_zero, List.set_cons_succ]
                            refine h_pass 12 rfl 138 rfl (by kernel_rfl) (by kernel_rfl) (by kernel_rfl) (by kernel_rfl) (fun _ _ _ h => h) ⟨D_360, E_360, A_360, B_360, Y_360, Z_360, trivial⟩ ?_
                            simp only [Act.put, List.setIfInBounds_toArray, List.set_cons_zero, List.set_cons_succ]
                            refine h_pass 13 rfl 139 rfl (by kernel_rfl) (by kernel_rfl) (by kernel_rfl) (by kernel_rfl) (fun _ _ _ h => h) ⟨D_360, E_360, A_360, B_360, Y_360, Z_360, trivial⟩ ?_
                            simp only [Act.put, List.setIfInBounds_toArray, List.set_cons_zero, List.set_cons_succ]
                            refine h_pass 14 rfl 140 rfl (by kernel_rfl) (by kernel_rfl) (by kernel_rfl) (by kernel_rfl) (fun _ _ _ h => h) ⟨D_360, E_360, A_360, B_360, Y_360, Z_360, trivial⟩ ?_
                            simp only [Act.put, List.setIfInBounds_toArray, List.set_cons_zero, List.set_cons_succ]
                            refine h_take 15 (.bool true) rfl 141 rfl (by kernel_rfl) (by kernel_rfl) (by kernel_rfl) (by kernel_rfl) (fun _ _ _ h => h) (fun w' _ => by kernel_rfl) ⟨D_360, E_360, A_360, B_360, Y_360, Z_360, trivial⟩ ?_
                            simp only [Act.put, List.setIfInBounds_toArray, List.set_cons_zero, List.set_cons_succ]
                            refine h_take 16 (.bool true) rfl 142 rfl (by kernel_rfl) (by kernel_rfl) (by kernel_rfl) (by kernel_rfl) (fun _ _ _ h => h) (fun w' _ => by kernel_rfl) ⟨D_360, E_360, A_360, B_360, Y_360, Z_360, trivial⟩ ?_
                            simp only [Act.put, List.setIfInBounds_toArray, List.set_cons_zero, List.set_cons_succ]
                            refine wpAnyH_done (by kernel_rfl) ?_ _
                            go_wp2_with fail
                            try simp only [Act.put]
                            go_ret
                            exact ⟨rfl, bel_360⟩
                        · have HQ1 := Lib.hid hq1
                          clear hq1
                          refine wp_region_held (S := fun w' => Row w' D 23 (u8s n1) ∧ Row w' E 23 (u8s n2) ∧ Row w' A 23 (u8s e1) ∧ Row w' B 23 (u8s e2) ∧ Row w' Y 29 (dgC L) ∧ Row w' Z 29 (dgC M) ∧ True) (by kernel_rfl) ?_
                          change wpAnyH _ _ _ _ _ _ _ _ wc.drew
                          have hd359 : Below wc.heap.size wc wc.drew := (Below.refl _ _).drew
                          have D_360 : Row wc.drew D 23 (u8s n1) := rD.old hd359
                          have E_360 : Row wc.drew E 23 (u8s n2) := rE.old hd359
                          have Y_360 : Row wc.drew Y 29 (dgC L) := rY.old hd359
                          have Z_360 : Row wc.drew Z 29 (dgC M) := rZ.old hd359
                          have A_360 : Row wc.drew A 23 (u8s e1) := rA.old hd359
                          have B_360 : Row wc.drew B 23 (u8s e2) := rB.old hd359
                          have bel_360 : Below w.heap.size w wc.drew := below_step belc belc.size hd359
                          clear rD rE rY rZ rA rB belc hd359
                          generalize wc.drew = yz359 at D_360 E_360 Y_360 Z_360 A_360 B_360 bel_360 ⊢
                          refine h_take 0 (.agg (u8s n1).toArray) rfl 126 rfl (by kernel_rfl) (by kernel_rfl) (by kernel_rfl) (by kernel_rfl) (fun _ _ _ h => h) (fun w' hw => run_op_load _ _ rfl D (0) rfl (u8s n1) (((Has.refl _)).range hw.1) ((szH KN1.out))) ⟨D_360, E_360, A_360, B_360, Y_360, Z_360, trivial⟩ ?_
                          simp only [Act.put, List.setIfInBounds_toArray, List.set_cons_zero, List.set_cons_succ]
                          refine h_take 1 (.agg (u8s n2).toArray) rfl 127 rfl (by kernel_rfl) (by kernel_rfl) (by kernel_rfl) (by kernel_rfl) (fun _ _ _ h => h) (fun w' hw => run_op_load _ _ rfl E (0) rfl (u8s n2) (((Has.refl _)).range hw.2.1) ((szH KN2.out))) ⟨D_360, E_360, A_360, B_360, Y_360, Z_360, trivial⟩ ?_
                          simp only [Act.put, List.setIfInBounds_toArray, List.set_cons_zero, List.set_cons_succ]
                          refine h_take 2 (.bool false) rfl 128 rfl (by kernel_rfl) (by kernel_rfl) (by kernel_rfl) (by kernel_rfl) (fun _ _ _ h => h) (fun w' _ => run_op_eqlD KN1.out KN2.out _ _ _ rfl rfl rfl false (iff_of_false Bool.false_ne_true HQ1.out) w') ⟨D_360, E_360, A_360, B_360, Y_360, Z_360, trivial⟩ ?_
                          simp only [Act.put, List.setIfInBounds_toArray, List.set_cons_zero, List.set_cons_succ]
                          refine h_take 3 (.bool false) rfl 129 rfl (by kernel_rfl) (by kernel_rfl) (by kernel_rfl) (by kernel_rfl) (fun _ _ _ h => h) (fun w' _ => by kernel_rfl) ⟨D_360, E_360, A_360, B_360, Y_360, Z_360, trivial⟩ ?_
                          simp only [Act.put, List.setIfInBounds_toArray, List.set_cons_zero, List.set_cons_succ]
                          refine h_pass 4 rfl 130 rfl (by kernel_rfl) (by kernel_rfl) (by kernel_rfl) (by kernel_rfl) (fun _ _ _ h => h) ⟨D_360, E_360, A_360, B_360, Y_360, Z_360, trivial⟩ ?_
                          simp only [Act.put, List.setIfInBounds_toArray, List.set_cons_zero, List.set_cons_succ]
                          refine h_pass 5 rfl 131 rfl (by kernel_rfl) (by kernel_rfl) (by kernel_rfl) (by kernel_rfl) (fun _ _ _ h => h) ⟨D_360, E_360, A_360, B_360, Y_360, Z_360, trivial⟩ ?_
                          simp only [Act.put, List.setIfInBounds_toArray, List.set_cons_zero, List.set_cons_succ]
                          refine h_pass 6 rfl 132 rfl (by kernel_rfl) (by kernel_rfl) (by kernel_rfl) (by kernel_rfl) (fun _ _ _ h => h) ⟨D_360, E_360, A_360, B_360, Y_360, Z_360, trivial⟩ ?_
                          simp only [Act.put, List.setIfInBounds_toArray, List.set_cons_zero, List.set_cons_succ]
                          refine h_pass 7 rfl 133 rfl (by kernel_rfl) (by kernel_rfl) (by kernel_rfl) (by kernel_rfl) (fun _ _ _ h => h) ⟨D_360, E_360, A_360, B_360, Y_360, Z_360, trivial⟩ ?_
                          simp only [Act.put, List.setIfInBounds_toArray, List.set_cons_zero, List.set_cons_succ]
                          refine h_pass 8 rfl 134 rfl (by kernel_rfl) (by kernel_rfl) (by kernel_rfl) (by kernel_rfl) (fun _ _ _ h => h) ⟨D_360, E_360, A_360, B_360, Y_360, Z_360, trivial⟩ ?_
                          simp only [Act.put, List.setIfInBounds_toArray, List.set_cons_zero, List.set_cons_succ]
                          refine h_pass 9 rfl 135 rfl (by kernel_rfl) (by kernel_rfl) (by kernel_rfl) (by kernel_rfl) (fun _ _ _ h => h) ⟨D_360, E_360, A_360, B_360, Y_360, Z_360, trivial⟩ ?_
                          simp only [Act.put, List.setIfInBounds_toArray, List.set_cons_zero, List.set_cons_succ]
                          refine h_pass 10 rfl 136 rfl (by kernel_rfl) (by kernel_rfl) (by kernel_rfl) (by kernel_rfl) (fun _ _ _ h => h) ⟨D_360, E_360, A_360, B_360, Y_360, Z_360, trivial⟩ ?_
                          simp only [Act.put, List.setIfInBounds_toArray, List.set_cons_zero, List.set_cons_succ]
                          refine h_pass 11 rfl 137 rfl (by kernel_rfl) (by kernel_rfl) (by kernel_rfl) (by kernel_rfl) (fun _ _ _ h => h) ⟨D_360, E_360, A_360, B_360, Y_360, Z_360, trivial⟩ ?_
                          simp only [Act.put, List.setIfInBounds_toArray, List.set_cons_zero, List.set_cons_succ]
                          refine h_pass 12 rfl 138 rfl (by kernel_rfl) (by kernel_rfl) (by kernel_rfl) (by kernel_rfl) (fun _ _ _ h => h) ⟨D_360, E_360, A_360, B_360, Y_360, Z_360, trivial⟩ ?_
                          simp only [Act.put, List.setIfInBounds_toArray, List.set_cons_zero, List.set_cons_succ]
                          refine h_pass 13 rfl 139 rfl (by kernel_rfl) (by kernel_rfl) (by kernel_rfl) (by kernel_rfl) (fun _ _ _ h => h) ⟨D_360, E_360, A_360, B_360, Y_360, Z_360, trivial⟩ ?_
                          simp only [Act.put, List.setIfInBounds_toArray, List.set_cons_zero, List.set_cons_succ]
                          refine h_pass 14 rfl 140 rfl (by kernel_rfl) (by kernel_rfl) (by kernel_rfl) (by kernel_rfl) (fun _ _ _ h => h) ⟨D_360, E_360, A_360, B_360, Y_360, Z_360, trivial⟩ ?_
                          simp only [Act.put, List.setIfInBounds_toArray, List.set_cons_zero, List.set_cons_succ]
                          refine h_pass 15 rfl 141 rfl (by kernel_rfl) (by kernel_rfl) (by kernel_rfl) (by kernel_rfl) (fun _ _ _ h => h) ⟨D_360, E_360, A_360, B_360, Y_360, Z_360, trivial⟩ ?_
                          simp only [Act.put, List.setIfInBounds_toArray, List.set_cons_zero, List.set_cons_succ]
                          refine h_take 16 (.bool false) rfl 142 rfl (by kernel_rfl) (by kernel_rfl) (by kernel_rfl) (by kernel_rfl) (fun _ _ _ h => h) (fun w' _ => by kernel_rfl) ⟨D_360, E_360, A_360, B_360, Y_360, Z_360, trivial⟩ ?_
                          simp only [Act.put, List.setIfInBounds_toArray, List.set_cons_zero, List.set_cons_succ]
                          refine wpAnyH_done (by kernel_rfl) ?_ _
                          go_wp2_with fail
                          try simp only [Act.put]
                          go_roundw
                          case rel => exact ⟨⟨k + 1, by omega, by go_num, HN1.out ▸ D_360, HN2.out ▸ E_360, fun j hj => by
                            rcases Nat.lt_or_ge j k with h | h
                            · exact HNO.out j h
                            · obtain rfl : j = k := by omega
                              exact fun hh => HQ1.out (by rw [HN1.out, HN2.out]; exact hh.1)⟩, Y_360, Z_360, bel_360⟩
                          case measure => simp [intOf]; omega
                    · have HM : Hid (decide (((q / 2 ^ k % 2 : Nat) : Int) = 0) = false) := Lib.hid (decide_eq_false (by omega))
                      have CJ1 := Lib.hid (fun w0 h => join_any (k + 1) x1 e1 w0 (by have := HLK.out; omega) KX1.out KE1.out h)
                      rw [show joinD (k + 1) x1 e1 = n1 by rw [HST1.out, if_neg he]] at CJ1
                      have CJ2 := Lib.hid (fun w0 h => join_any (k + 1) x2 e2 w0 (by have := HLK.out; omega) KX2.out KE2.out h)
                      rw [show joinD (k + 1) x2 e2 = n2 by rw [HST2.out, if_neg he]] at CJ2
                      clear he HST1 HST2
                      go_wp2_with (first
                        | ((with_reducible refine at_slot 95 ?_); (refine arm_want (.int .i64 ((q / 2 ^ k : Nat) : Int)) 95 rfl (by kernel_rfl) (run_op_shrI _ _ _ _ rfl q k rfl rfl HPQ.out HK64.out _) ?_); try simp only [Act.put, List.setIfInBounds_toArray, List.set_cons_zero, List.set_cons_succ])
                        | ((with_reducible refine at_slot 96 ?_); (refine arm_want (.int .i64 ((q / 2 ^ k % 2 : Nat) : Int)) 96 rfl (by kernel_rfl) (run_op_andI _ _ _ _ rfl (q / 2 ^ k) rfl rfl HX16.out _) ?_); try simp only [Act.put, List.setIfInBounds_toArray, List.set_cons_zero, List.set_cons_succ])
                        | ((with_reducible refine at_slot 97 ?_); (refine arm_want (.bool false) 97 rfl (by kernel_rfl) (cmp_eql _ _ .i64 (by kernel_rfl) _ _ rfl .i64 _ _ rfl rfl false HM.out _) ?_); try simp only [Act.put, List.setIfInBounds_toArray, List.set_cons_zero, List.set_cons_succ]))
                      go_cut [20] (fun v wx => v = .int .i64 (k : Int) ∧ Row wx D 23 (u8s n1) ∧ Row wx E 23 (u8s n2) ∧ Row wx A 23 (u8s e1) ∧ Row wx B 23 (u8s e2) ∧ Row wx Y 29 (dgC L) ∧ Row wx Z 29 (dgC M) ∧ Below w.heap.size w wx)
                      case first =>
                        refine wp_region_held (S := fun w' => Row w' Y 29 (dgC L) ∧ Row w' Z 29 (dgC M) ∧ True) (by kernel_rfl) ?_
                        change wpAnyH _ _ _ _ _ _ _ _ y307.drew
                        have hd309 : Below y307.heap.size y307 y307.drew := (Below.refl _ _).drew
                        have D_310 : Row y307.drew D 23 (u8s e1) := D_308.old hd309
                        have E_310 : Row y307.drew E 23 (u8s e2) := E_308.old hd309
                        have Y_310 : Row y307.drew Y 29 (dgC L) := Y_308.old hd309
                        have Z_310 : Row y307.drew Z 29 (dgC M) := Z_308.old hd309
                        have A_310 : Row y307.drew A 23 (u8s e1) := A_308.old hd309
                        have B_310 : Row y307.drew B 23 (u8s e2) := B_308.old hd309
                        have bel_310 : Below w.heap.size w y307.drew := below_step bel_308 bel_308.size hd309
                        clear D_308 E_308 Y_308 Z_308 A_308 B_308 bel_308 hd309
                        generalize y307.drew = yz309 at D_310 E_310 Y_310 Z_310 A_310 B_310 bel_310 ⊢
                        refine h_take 0 (.int .i64 (k : Int)) rfl 112 rfl (by kernel_rfl) (by kernel_rfl) (by kernel_rfl) (by kernel_rfl) (fun _ _ _ h => h) (fun w' _ => by kernel_rfl) ⟨Y_310, Z_310, trivial⟩ ?_
                        simp only [Act.put, List.setIfInBounds_toArray, List.set_cons_zero, List.set_cons_succ]
                        refine h_take 1 (.int .i64 ((k + 1 : Nat) : Int)) rfl 113 rfl (by kernel_rfl) (by kernel_rfl) (by kernel_rfl) (by kernel_rfl) (fun _ _ _ h => h) (fun w' _ => run_op_addK _ _ _ _ rfl _ _ _ rfl rfl HW.out w') ⟨Y_310, Z_310, trivial⟩ ?_
                        simp only [Act.put, List.setIfInBounds_toArray, List.set_cons_zero, List.set_cons_succ]
                        refine h_take 2 (.int .i64 (k : Int)) rfl 114 rfl (by kernel_rfl) (by kernel_rfl) (by kernel_rfl) (by kernel_rfl) (fun _ _ _ h => h) (fun w' _ => by kernel_rfl) ⟨Y_310, Z_310, trivial⟩ ?_
                        simp only [Act.put, List.setIfInBounds_toArray, List.set_cons_zero, List.set_cons_succ]
                        refine h_take 3 (.pointer (some ⟨Y, 32 * k, none⟩)) rfl 115 rfl (by kernel_rfl) (by kernel_rfl) (by kernel_rfl) (by kernel_rfl) (fun _ _ _ h => h) (fun w' _ => run_op_arr _ _ _ rfl 4 23 32 (by kernel_rfl) (by kernel_rfl) Y 0 rfl .i64 _ rfl k rfl HLK.out (32 * k) (by omega) w') ⟨Y_310, Z_310, trivial⟩ ?_
                        simp only [Act.put, List.setIfInBounds_toArray, List.set_cons_zero, List.set_cons_succ]
                        refine h_take 4 (.agg (u8s x1).toArray) rfl 116 rfl (by kernel_rfl) (by kernel_rfl) (by kernel_rfl) (by kernel_rfl) (fun _ _ _ h => h) (fun w' hw => run_op_load _ _ rfl Y (32 * k) rfl (u8s x1) ((HP1.out).range hw.1) ((szH KX1.out))) ⟨Y_310, Z_310, trivial⟩ ?_
                        simp only [Act.put, List.setIfInBounds_toArray, List.set_cons_zero, List.set_cons_succ]
                        refine h_take 7 (.int .i64 (k : Int)) rfl 119 rfl (by kernel_rfl) (by kernel_rfl) (by kernel_rfl) (by kernel_rfl) (fun _ _ _ h => h) (fun w' _ => by kernel_rfl) ⟨Y_310, Z_310, trivial⟩ ?_
                        simp only [Act.put, List.setIfInBounds_toArray, List.set_cons_zero, List.set_cons_succ]
                        refine h_take 8 (.int .i64 ((k + 1 : Nat) : Int)) rfl 120 rfl (by kernel_rfl) (by kernel_rfl) (by kernel_rfl) (by kernel_rfl) (fun _ _ _ h => h) (fun w' _ => run_op_addK _ _ _ _ rfl _ _ _ rfl rfl HW.out w') ⟨Y_310, Z_310, trivial⟩ ?_
                        simp only [Act.put, List.setIfInBounds_toArray, List.set_cons_zero, List.set_cons_succ]
                        refine h_take 9 (.int .i64 (k : Int)) rfl 121 rfl (by kernel_rfl) (by kernel_rfl) (by kernel_rfl) (by kernel_rfl) (fun _ _ _ h => h) (fun w' _ => by kernel_rfl) ⟨Y_310, Z_310, trivial⟩ ?_
                        simp only [Act.put, List.setIfInBounds_toArray, List.set_cons_zero, List.set_cons_succ]
                        refine h_take 10 (.pointer (some ⟨Z, 32 * k, none⟩)) rfl 122 rfl (by kernel_rfl) (by kernel_rfl) (by kernel_rfl) (by kernel_rfl) (fun _ _ _ h => h) (fun w' _ => run_op_arr _ _ _ rfl 4 23 32 (by kernel_rfl) (by kernel_rfl) Z 0 rfl .i64 _ rfl k rfl HLK.out (32 * k) (by omega) w') ⟨Y_310, Z_310, trivial⟩ ?_
                        simp only [Act.put, List.setIfInBounds_toArray, List.set_cons_zero, List.set_cons_succ]
                        refine h_take 11 (.agg (u8s x2).toArray) rfl 123 rfl (by kernel_rfl) (by kernel_rfl) (by kernel_rfl) (by kernel_rfl) (fun _ _ _ h => h) (fun w' hw => run_op_load _ _ rfl Z (32 * k) rfl (u8s x2) ((HP2.out).range hw.2.1) ((szH KX2.out))) ⟨Y_310, Z_310, trivial⟩ ?_
                        simp only [Act.put, List.setIfInBounds_toArray, List.set_cons_zero, List.set_cons_succ]
                        refine h_two (i := 5) (j := 12) (by kernel_rfl) ?_ ?_
                        · skip
                          refine o_value (.agg (u8s e1).toArray) rfl 117 rfl (by kernel_rfl) (run_op_load _ _ rfl D 0 rfl (u8s e1) ((Has.refl _).range D_310) (szH KE1.out)) ?_
                          refine ⟨⟨Y_310, Z_310, trivial⟩, ?_⟩
                          simp only [Act.put, List.setIfInBounds_toArray, List.set_cons_zero, List.set_cons_succ]
                          refine h_two (i := 6) (j := 12) (by kernel_rfl) ?_ ?_
                          · skip
                            refine (o_call rfl 118 rfl (by kernel_rfl) (run_op_call 28 _ _ rfl #[.int .i64 ((k + 1 : Nat) : Int), .agg (u8s x1).toArray, .agg (u8s e1).toArray] (by simp only [List.map_toArray, List.map_cons, List.map_nil]; rfl) Tryd.func28 (by kernel_rfl) (by kernel_rfl) _) (CJ1.out _ (HKW.out _ bel_310)) ?_)
                            rintro e y311 ⟨rfl, hB⟩
                            have D_312 : Row y311 D 23 (u8s e1) := D_310.old hB
                            have E_312 : Row y311 E 23 (u8s e2) := E_310.old hB
                            have Y_312 : Row y311 Y 29 (dgC L) := Y_310.old hB
                            have Z_312 : Row y311 Z 29 (dgC M) := Z_310.old hB
                            have A_312 : Row y311 A 23 (u8s e1) := A_310.old hB
                            have B_312 : Row y311 B 23 (u8s e2) := B_310.old hB
                            have bel_312 : Below w.heap.size w y311 := below_step bel_310 bel_310.size hB
                            clear D_310 E_310 Y_310 Z_310 A_310 B_310 bel_310 hB
                            refine ⟨_, rfl, ⟨Y_312, Z_312, trivial⟩, ?_⟩
                            simp only [Act.put, List.setIfInBounds_toArray, List.set_cons_zero, List.set_cons_succ]
                            refine h_one (i := 12) (by kernel_rfl) (o_value (.agg (u8s e2).toArray) rfl 124 rfl (by kernel_rfl) (run_op_load _ _ rfl E 0 rfl (u8s e2) ((Has.refl _).range E_312) (szH KE2.out)) ?_)
                            refine ⟨⟨Y_312, Z_312, trivial⟩, ?_⟩
                            simp only [Act.put, List.setIfInBounds_toArray, List.set_cons_zero, List.set_cons_succ]
                            refine h_one (i := 13) (by kernel_rfl) (o_call rfl 125 rfl (by kernel_rfl) (run_op_call 28 _ _ rfl #[.int .i64 ((k + 1 : Nat) : Int), .agg (u8s x2).toArray, .agg (u8s e2).toArray] (by simp only [List.map_toArray, List.map_cons, List.map_nil]; rfl) Tryd.func28 (by kernel_rfl) (by kernel_rfl) _) (CJ2.out _ (HKW.out _ bel_312)) ?_)
                            rintro e y313 ⟨rfl, hB⟩
                            have D_314 : Row y313 D 23 (u8s e1) := D_312.old hB
                            have E_314 : Row y313 E 23 (u8s e2) := E_312.old hB
                            have Y_314 : Row y313 Y 29 (dgC L) := Y_312.old hB
                            have Z_314 : Row y313 Z 29 (dgC M) := Z_312.old hB
                            have A_314 : Row y313 A 23 (u8s e1) := A_312.old hB
                            have B_314 : Row y313 B 23 (u8s e2) := B_312.old hB
                            have bel_314 : Below w.heap.size w y313 := below_step bel_312 bel_312.size hB
                            clear D_312 E_312 Y_312 Z_312 A_312 B_312 bel_312 hB
                            refine ⟨_, rfl, ⟨Y_314, Z_314, trivial⟩, ?_⟩
                            simp only [Act.put, List.setIfInBounds_toArray, List.set_cons_zero, List.set_cons_succ]
                            refine h_one (i := 14) (by kernel_rfl) (o_skip rfl rfl (by kernel_rfl) (run_op_store _ _ _ rfl D (0) rfl (u8s n1) rfl _ _ D_314 (by rw [h_len KN1.out, h_len KE1.out]; omega) (u8s_one _) (szH KN1.out)) ?_)
                            have rq := row_setRow D_314 (lay (u8s e1) (0) (u8s n1))
                            have oq := Only.setRow D y313 (lay (u8s e1) (0) (u8s n1)).toArray
                            generalize y313.setRow D (lay (u8s e1) (0) (u8s n1)).toArray = y315 at rq oq ⊢
                            have D_316 : Row y315 D 23 (u8s n1) := rq.congr (lay_all _ _ (by rw [h_len KN1.out, h_len KE1.out]))
                            have E_316 : Row y315 E 23 (u8s e2) := E_314.only oq nDE.symm
                            have Y_316 : Row y315 Y 29 (dgC L) := Y_314.only oq nYD
                            have Z_316 : Row y315 Z 29 (dgC M) := Z_314.only oq nZD
                            have A_316 : Row y315 A 23 (u8s e1) := A_314.only oq neDA.symm
                            have B_316 : Row y315 B 23 (u8s e2) := B_314.only oq neDB.symm
                            have bel_316 : Below w.heap.size w y315 := below_only bel_314 oq geD bel_314.size
                            clear D_314 E_314 Y_314 Z_314 A_314 B_314 bel_314 oq
                            clear rq
                            refine ⟨⟨Y_316, Z_316, trivial⟩, ?_⟩
                            refine h_one (i := 15) (by kernel_rfl) (o_skip rfl rfl (by kernel_rfl) (run_op_store _ _ _ rfl E (0) rfl (u8s n2) rfl _ _ E_316 (by rw [h_len KN2.out, h_len KE2.out]; omega) (u8s_one _) (szH KN2.out)) ?_)
                            have rq := row_setRow E_316 (lay (u8s e2) (0) (u8s n2))
                            have oq := Only.setRow E y315 (lay (u8s e2) (0) (u8s n2)).toArray
                            generalize y315.setRow E (lay (u8s e2) (0) (u8s n2)).toArray = y317 at rq oq ⊢
                            have D_318 : Row y317 D 23 (u8s n1) := D_316.only oq nDE
                            have E_318 : Row y317 E 23 (u8s n2) := rq.congr (lay_all _ _ (by rw [h_len KN2.out, h_len KE2.out]))
                            have Y_318 : Row y317 Y 29 (dgC L) := Y_316.only oq nYE
                            have Z_318 : Row y317 Z 29 (dgC M) := Z_316.only oq nZE
                            have A_318 : Row y317 A 23 (u8s e1) := A_316.only oq neEA.symm
                            have B_318 : Row y317 B 23 (u8s e2) := B_316.only oq neEB.symm
                            have bel_318 : Below w.heap.size w y317 := below_only bel_316 oq geE bel_316.size
                            clear D_316 E_316 Y_316 Z_316 A_316 B_316 bel_316 oq
                            clear rq
                            refine ⟨⟨Y_318, Z_318, trivial⟩, ?_⟩
                            refine wpAnyH_done (by kernel_rfl) ?_ _
                            go_wp2_with fail
                            go_meet
                            exact ⟨rfl, D_318, E_318, A_318, B_318, Y_318, Z_318, bel_318⟩
                          · skip
                            refine o_value (.agg (u8s e2).toArray) rfl 124 rfl (by kernel_rfl) (run_op_load _ _ rfl E 0 rfl (u8s e2) ((Has.refl _).range E_310) (szH KE2.out)) ?_
                            refine ⟨⟨Y_310, Z_310, trivial⟩, ?_⟩
                            simp only [Act.put, List.setIfInBounds_toArray, List.set_cons_zero, List.set_cons_succ]
                            refine h_one (i := 6) (by kernel_rfl) (o_call rfl 118 rfl (by kernel_rfl) (run_op_call 28 _ _ rfl #[.int .i64 ((k + 1 : Nat) : Int), .agg (u8s x1).toArray, .agg (u8s e1).toArray] (by simp only [List.map_toArray, List.map_cons, List.map_nil]; rfl) Tryd.func28 (by kernel_rfl) (by kernel_rfl) _) (CJ1.out _ (HKW.out _ bel_310)) ?_)
                            rintro e y311 ⟨rfl, hB⟩
                            have D_312 : Row y311 D 23 (u8s e1) := D_310.old hB
                            have E_312 : Row y311 E 23 (u8s e2) := E_310.old hB
                            have Y_312 : Row y311 Y 29 (dgC L) := Y_310.old hB
                            have Z_312 : Row y311 Z 29 (dgC M) := Z_310.old hB
                            have A_312 : Row y311 A 23 (u8s e1) := A_310.old hB
                            have B_312 : Row y311 B 23 (u8s e2) := B_310.old hB
                            have bel_312 : Below w.heap.size w y311 := below_step bel_310 bel_310.size hB
                            clear D_310 E_310 Y_310 Z_310 A_310 B_310 bel_310 hB
                            refine ⟨_, rfl, ⟨Y_312, Z_312, trivial⟩, ?_⟩
                            simp only [Act.put, List.setIfInBounds_toArray, List.set_cons_zero, List.set_cons_succ]
                            refine h_one (i := 13) (by kernel_rfl) (o_call rfl 125 rfl (by kernel_rfl) (run_op_call 28 _ _ rfl #[.int .i64 ((k + 1 : Nat) : Int), .agg (u8s x2).toArray, .agg (u8s e2).toArray] (by simp only [List.map_toArray, List.map_cons, List.map_nil]; rfl) Tryd.func28 (by kernel_rfl) (by kernel_rfl) _) (CJ2.out _ (HKW.out _ bel_312)) ?_)
                            rintro e y313 ⟨rfl, hB⟩
                            have D_314 : Row y313 D 23 (u8s e1) := D_312.old hB
                            have E_314 : Row y313 E 23 (u8s e2) := E_312.old hB
                            have Y_314 : Row y313 Y 29 (dgC L) := Y_312.old hB
                            have Z_314 : Row y313 Z 29 (dgC M) := Z_312.old hB
                            have A_314 : Row y313 A 23 (u8s e1) := A_312.old hB
                            have B_314 : Row y313 B 23 (u8s e2) := B_312.old hB
                            have bel_314 : Below w.heap.size w y313 := below_step bel_312 bel_312.size hB
                            clear D_312 E_312 Y_312 Z_312 A_312 B_312 bel_312 hB
                            refine ⟨_, rfl, ⟨Y_314, Z_314, trivial⟩, ?_⟩
                            simp only [Act.put, List.setIfInBounds_toArray, List.set_cons_zero, List.set_cons_succ]
                            refine h_one (i := 14) (by kernel_rfl) (o_skip rfl rfl (by kernel_rfl) (run_op_store _ _ _ rfl D (0) rfl (u8s n1) rfl _ _ D_314 (by rw [h_len KN1.out, h_len KE1.out]; omega) (u8s_one _) (szH KN1.out)) ?_)
                            have rq := row_setRow D_314 (lay (u8s e1) (0) (u8s n1))
                            have oq := Only.setRow D y313 (lay (u8s e1) (0) (u8s n1)).toArray
                            generalize y313.setRow D (lay (u8s e1) (0) (u8s n1)).toArray = y315 at rq oq ⊢
                            have D_316 : Row y315 D 23 (u8s n1) := rq.congr (lay_all _ _ (by rw [h_len KN1.out, h_len KE1.out]))
                            have E_316 : Row y315 E 23 (u8s e2) := E_314.only oq nDE.symm
                            have Y_316 : Row y315 Y 29 (dgC L) := Y_314.only oq nYD
                            have Z_316 : Row y315 Z 29 (dgC M) := Z_314.only oq nZD
                            have A_316 : Row y315 A 23 (u8s e1) := A_314.only oq neDA.symm
                            have B_316 : Row y315 B 23 (u8s e2) := B_314.only oq neDB.symm
                            have bel_316 : Below w.heap.size w y315 := below_only bel_314 oq geD bel_314.size
                            clear D_314 E_314 Y_314 Z_314 A_314 B_314 bel_314 oq
                            clear rq
                            refine ⟨⟨Y_316, Z_316, trivial⟩, ?_⟩
                            refine h_one (i := 15) (by kernel_rfl) (o_skip rfl rfl (by kernel_rfl) (run_op_store _ _ _ rfl E (0) rfl (u8s n2) rfl _ _ E_316 (by rw [h_len KN2.out, h_len KE2.out]; omega) (u8s_one _) (szH KN2.out)) ?_)
                            have rq := row_setRow E_316 (lay (u8s e2) (0) (u8s n2))
                            have oq := Only.setRow E y315 (lay (u8s e2) (0) (u8s n2)).toArray
                            generalize y315.setRow E (lay (u8s e2) (0) (u8s n2)).toArray = y317 at rq oq ⊢
                            have D_318 : Row y317 D 23 (u8s n1) := D_316.only oq nDE
                            have E_318 : Row y317 E 23 (u8s n2) := rq.congr (lay_all _ _ (by rw [h_len KN2.out, h_len KE2.out]))
                            have Y_318 : Row y317 Y 29 (dgC L) := Y_316.only oq nYE
                            have Z_318 : Row y317 Z 29 (dgC M) := Z_316.only oq nZE
                            have A_318 : Row y317 A 23 (u8s e1) := A_316.only oq neEA.symm
                            have B_318 : Row y317 B 23 (u8s e2) := B_316.only oq neEB.symm
                            have bel_318 : Below w.heap.size w y317 := below_only bel_316 oq geE bel_316.size
                            clear D_316 E_316 Y_316 Z_316 A_316 B_316 bel_316 oq
                            clear rq
                            refine ⟨⟨Y_318, Z_318, trivial⟩, ?_⟩
                            refine wpAnyH_done (by kernel_rfl) ?_ _
                            go_wp2_with fail
                            go_meet
                            exact ⟨rfl, D_318, E_318, A_318, B_318, Y_318, Z_318, bel_318⟩
                        · skip
                          refine o_value (.agg (u8s e2).toArray) rfl 124 rfl (by kernel_rfl) (run_op_load _ _ rfl E 0 rfl (u8s e2) ((Has.refl _).range E_310) (szH KE2.out)) ?_
                          refine ⟨⟨Y_310, Z_310, trivial⟩, ?_⟩
                          simp only [Act.put, List.setIfInBounds_toArray, List.set_cons_zero, List.set_cons_succ]
                          refine h_one (i := 5) (by kernel_rfl) (o_value (.agg (u8s e1).toArray) rfl 117 rfl (by kernel_rfl) (run_op_load _ _ rfl D 0 rfl (u8s e1) ((Has.refl _).range D_310) (szH KE1.out)) ?_)
                          refine ⟨⟨Y_310, Z_310, trivial⟩, ?_⟩
                          simp only [Act.put, List.setIfInBounds_toArray, List.set_cons_zero, List.set_cons_succ]
                          refine h_one (i := 6) (by kernel_rfl) (o_call rfl 118 rfl (by kernel_rfl) (run_op_call 28 _ _ rfl #[.int .i64 ((k + 1 : Nat) : Int), .agg (u8s x1).toArray, .agg (u8s e1).toArray] (by simp only [List.map_toArray, List.map_cons, List.map_nil]; rfl) Tryd.func28 (by kernel_rfl) (by kernel_rfl) _) (CJ1.out _ (HKW.out _ bel_310)) ?_)
                          rintro e y311 ⟨rfl, hB⟩
                          have D_312 : Row y311 D 23 (u8s e1) := D_310.old hB
                          have E_312 : Row y311 E 23 (u8s e2) := E_310.old hB
                          have Y_312 : Row y311 Y 29 (dgC L) := Y_310.old hB
                          have Z_312 : Row y311 Z 29 (dgC M) := Z_310.old hB
                          have A_312 : Row y311 A 23 (u8s e1) := A_310.old hB
                          have B_312 : Row y311 B 23 (u8s e2) := B_310.old hB
                          have bel_312 : Below w.heap.size w y311 := below_step bel_310 bel_310.size hB
                          clear D_310 E_310 Y_310 Z_310 A_310 B_310 bel_310 hB
                          refine ⟨_, rfl, ⟨Y_312, Z_312, trivial⟩, ?_⟩
                          simp only [Act.put, List.setIfInBounds_toArray, List.set_cons_zero, List.set_cons_succ]
                          refine h_one (i := 13) (by kernel_rfl) (o_call rfl 125 rfl (by kernel_rfl) (run_op_call 28 _ _ rfl #[.int .i64 ((k + 1 : Nat) : Int), .agg (u8s x2).toArray, .agg (u8s e2).toArray] (by simp only [List.map_toArray, List.map_cons, List.map_nil]; rfl) Tryd.func28 (by kernel_rfl) (by kernel_rfl) _) (CJ2.out _ (HKW.out _ bel_312)) ?_)
                          rintro e y313 ⟨rfl, hB⟩
                          have D_314 : Row y313 D 23 (u8s e1) := D_312.old hB
                          have E_314 : Row y313 E 23 (u8s e2) := E_312.old hB
                          have Y_314 : Row y313 Y 29 (dgC L) := Y_312.old hB
                          have Z_314 : Row y313 Z 29 (dgC M) := Z_312.old hB
                          have A_314 : Row y313 A 23 (u8s e1) := A_312.old hB
                          have B_314 : Row y313 B 23 (u8s e2) := B_312.old hB
                          have bel_314 : Below w.heap.size w y313 := below_step bel_312 bel_312.size hB
                          clear D_312 E_312 Y_312 Z_312 A_312 B_312 bel_312 hB
                          refine ⟨_, rfl, ⟨Y_314, Z_314, trivial⟩, ?_⟩
                          simp only [Act.put, List.setIfInBounds_toArray, List.set_cons_zero, List.set_cons_succ]
                          refine h_one (i := 14) (by kernel_rfl) (o_skip rfl rfl (by kernel_rfl) (run_op_store _ _ _ rfl D (0) rfl (u8s n1) rfl _ _ D_314 (by rw [h_len KN1.out, h_len KE1.out]; omega) (u8s_one _) (szH KN1.out)) ?_)
                          have rq := row_setRow D_314 (lay (u8s e1) (0) (u8s n1))
                          have oq := Only.setRow D y313 (lay (u8s e1) (0) (u8s n1)).toArray
                          generalize y313.setRow D (lay (u8s e1) (0) (u8s n1)).toArray = y315 at rq oq ⊢
                          have D_316 : Row y315 D 23 (u8s n1) := rq.congr (lay_all _ _ (by rw [h_len KN1.out, h_len KE1.out]))
                          have E_316 : Row y315 E 23 (u8s e2) := E_314.only oq nDE.symm
                          have Y_316 : Row y315 Y 29 (dgC L) := Y_314.only oq nYD
                          have Z_316 : Row y315 Z 29 (dgC M) := Z_314.only oq nZD
                          have A_316 : Row y315 A 23 (u8s e1) := A_314.only oq neDA.symm
                          have B_316 : Row y315 B 23 (u8s e2) := B_314.only oq neDB.symm
                          have bel_316 : Below w.heap.size w y315 := below_only bel_314 oq geD bel_314.size
                          clear D_314 E_314 Y_314 Z_314 A_314 B_314 bel_314 oq
                          clear rq
                          refine ⟨⟨Y_316, Z_316, trivial⟩, ?_⟩
                          refine h_one (i := 15) (by kernel_rfl) (o_skip rfl rfl (by kernel_rfl) (run_op_store _ _ _ rfl E (0) rfl (u8s n2) rfl _ _ E_316 (by rw [h_len KN2.out, h_len KE2.out]; omega) (u8s_one _) (szH KN2.out)) ?_)
                          have rq := row_setRow E_316 (lay (u8s e2) (0) (u8s n2))
                          have oq := Only.setRow E y315 (lay (u8s e2) (0) (u8s n2)).toArray
                          generalize y315.setRow E (lay (u8s e2) (0) (u8s n2)).toArray = y317 at rq oq ⊢
                          have D_318 : Row y317 D 23 (u8s n1) := D_316.only oq nDE
                          have E_318 : Row y317 E 23 (u8s n2) := rq.congr (lay_all _ _ (by rw [h_len KN2.out, h_len KE2.out]))
                          have Y_318 : Row y317 Y 29 (dgC L) := Y_316.only oq nYE
                          have Z_318 : Row y317 Z 29 (dgC M) := Z_316.only oq nZE
                          have A_318 : Row y317 A 23 (u8s e1) := A_316.only oq neEA.symm
                          have B_318 : Row y317 B 23 (u8s e2) := B_316.only oq neEB.symm
                          have bel_318 : Below w.heap.size w y317 := below_only bel_316 oq geE bel_316.size
                          clear D_316 E_316 Y_316 Z_316 A_316 B_316 bel_316 oq
                          clear rq
                          refine ⟨⟨Y_318, Z_318, trivial⟩, ?_⟩
                          refine wpAnyH_done (by kernel_rfl) ?_ _
                          go_wp2_with fail
                          go_meet
                          exact ⟨rfl, D_318, E_318, A_318, B_318, Y_318, Z_318, bel_318⟩
                      case rest =>
                        obtain ⟨rfl, rD, rE, rA, rB, rY, rZ, belc⟩ := hcut
                        clear D_308 E_308 Y_308 Z_308 A_308 B_308 bel_308
                        go_wp2_with fail
                        by_cases hq1 : n1 = n2
                        · have HQ1 := Lib.hid hq1
                          clear hq1
                          by_cases hq2 : e1 = e2
                          · have HQ2 := Lib.hid hq2
                            clear hq2
                            by_cases hq3 : x1 = x2
                            · have HQ3 := Lib.hid hq3
                              clear hq3
                              refine wp_region_held (S := fun w' => Row w' D 23 (u8s n1) ∧ Row w' E 23 (u8s n2) ∧ Row w' A 23 (u8s e1) ∧ Row w' B 23 (u8s e2) ∧ Row w' Y 29 (dgC L) ∧ Row w' Z 29 (dgC M) ∧ True) (by kernel_rfl) ?_
                              change wpAnyH _ _ _ _ _ _ _ _ wc.drew
                              have hd359 : Below wc.heap.size wc wc.drew := (Below.refl _ _).drew
                              have D_360 : Row wc.drew D 23 (u8s n1) := rD.old hd359
                              have E_360 : Row wc.drew E 23 (u8s n2) := rE.old hd359
                              have Y_360 : Row wc.drew Y 29 (dgC L) := rY.old hd359
                              have Z_360 : Row wc.drew Z 29 (dgC M) := rZ.old hd359
                              have A_360 : Row wc.drew A 23 (u8s e1) := rA.old hd359
                              have B_360 : Row wc.drew B 23 (u8s e2) := rB.old hd359
                              have bel_360 : Below w.heap.size w wc.drew := below_step belc belc.size hd359
                              clear rD rE rY rZ rA rB belc hd359
                              generalize wc.drew = yz359 at D_360 E_360 Y_360 Z_360 A_360 B_360 bel_360 ⊢
                              refine h_take 0 (.agg (u8s n1).toArray) rfl 126 rfl (by kernel_rfl) (by kernel_rfl) (by kernel_rfl) (by kernel_rfl) (fun _ _ _ h => h) (fun w' hw => run_op_load _ _ rfl D (0) rfl (u8s n1) (((Has.refl _)).range hw.1) ((szH KN1.out))) ⟨D_360, E_360, A_360, B_360, Y_360, Z_360, trivial⟩ ?_
                              simp only [Act.put, List.setIfInBounds_toArray, List.set_cons_zero, List.set_cons_succ]
                              refine h_take 1 (.agg (u8s n2).toArray) rfl 127 rfl (by kernel_rfl) (by kernel_rfl) (by kernel_rfl) (by kernel_rfl) (fun _ _ _ h => h) (fun w' hw => run_op_load _ _ rfl E (0) rfl (u8s n2) (((Has.refl _)).range hw.2.1) ((szH KN2.out))) ⟨D_360, E_360, A_360, B_360, Y_360, Z_360, trivial⟩ ?_
                              simp only [Act.put, List.setIfInBounds_toArray, List.set_cons_zero, List.set_cons_succ]
                              refine h_take 2 (.bool true) rfl 128 rfl (by kernel_rfl) (by kernel_rfl) (by kernel_rfl) (by kernel_rfl) (fun _ _ _ h => h) (fun w' _ => run_op_eqlD KN1.out KN2.out _ _ _ rfl rfl rfl true (iff_of_true rfl HQ1.out) w') ⟨D_360, E_360, A_360, B_360, Y_360, Z_360, trivial⟩ ?_
                              simp only [Act.put, List.setIfInBounds_toArray, List.set_cons_zero, List.set_cons_succ]
                              refine h_take 3 (.bool true) rfl 129 rfl (by kernel_rfl) (by kernel_rfl) (by kernel_rfl) (by kernel_rfl) (fun _ _ _ h => h) (fun w' _ => by kernel_rfl) ⟨D_360, E_360, A_360, B_360, Y_360, Z_360, trivial⟩ ?_
                              simp only [Act.put, List.setIfInBounds_toArray, List.set_cons_zero, List.set_cons_succ]
                              refine h_take 4 (.agg (u8s e1).toArray) rfl 130 rfl (by kernel_rfl) (by kernel_rfl) (by kernel_rfl) (by kernel_rfl) (fun _ _ _ h => h) (fun w' hw => run_op_load _ _ rfl A (0) rfl (u8s e1) (((Has.refl _)).range hw.2.2.1) ((szH KE1.out))) ⟨D_360, E_360, A_360, B_360, Y_360, Z_360, trivial⟩ ?_
                              simp only [Act.put, List.setIfInBounds_toArray, List.set_cons_zero, List.set_cons_succ]
                              refine h_take 5 (.agg (u8s e2).toArray) rfl 131 rfl (by kernel_rfl) (by kernel_rfl) (by kernel_rfl) (by kernel_rfl) (fun _ _ _ h => h) (fun w' hw => run_op_load _ _ rfl B (0) rfl (u8s e2) (((Has.refl _)).range hw.2.2.2.1) ((szH KE2.out))) ⟨D_360, E_360, A_360, B_360, Y_360, Z_360, trivial⟩ ?_
                              simp only [Act.put, List.setIfInBounds_toArray, List.set_cons_zero, List.set_cons_succ]
                              refine h_take 6 (.bool false) rfl 132 rfl (by kernel_rfl) (by kernel_rfl) (by kernel_rfl) (by kernel_rfl) (fun _ _ _ h => h) (fun w' _ => run_op_neqD KE1.out KE2.out _ _ _ rfl rfl rfl true (iff_of_true rfl HQ2.out) w') ⟨D_360, E_360, A_360, B_360, Y_360, Z_360, trivial⟩ ?_
                              simp only [Act.put, List.setIfInBounds_toArray, List.set_cons_zero, List.set_cons_succ]
                              refine h_take 7 (.bool false) rfl 133 rfl (by kernel_rfl) (by kernel_rfl) (by kernel_rfl) (by kernel_rfl) (fun _ _ _ h => h) (fun w' _ => by kernel_rfl) ⟨D_360, E_360, A_360, B_360, Y_360, Z_360, trivial⟩ ?_
                              simp only [Act.put, List.setIfInBounds_toArray, List.set_cons_zero, List.set_cons_succ]
                              refine h_take 8 (.int .i64 (k : Int)) rfl 134 rfl (by kernel_rfl) (by kernel_rfl) (by kernel_rfl) (by kernel_rfl) (fun _ _ _ h => h) (fun w' _ => by kernel_rfl) ⟨D_360, E_360, A_360, B_360, Y_360, Z_360, trivial⟩ ?_
                              simp only [Act.put, List.setIfInBounds_toArray, List.set_cons_zero, List.set_cons_succ]
                              refine h_take 9 (.pointer (some ⟨Y, 32 * k, none⟩)) rfl 135 rfl (by kernel_rfl) (by kernel_rfl) (by kernel_rfl) (by kernel_rfl) (fun _ _ _ h => h) (fun w' _ => run_op_arr _ _ _ rfl 4 23 32 (by kernel_rfl) (by kernel_rfl) Y 0 rfl .i64 _ rfl k rfl HLK.out (32 * k) (by omega) w') ⟨D_360, E_360, A_360, B_360, Y_360, Z_360, trivial⟩ ?_
                              simp only [Act.put, List.setIfInBounds_toArray, List.set_cons_zero, List.set_cons_succ]
                              refine h_take 10 (.agg (u8s x1).toArray) rfl 136 rfl (by kernel_rfl) (by kernel_rfl) (by kernel_rfl) (by kernel_rfl) (fun _ _ _ h => h) (fun w' hw => run_op_load _ _ rfl Y (32 * k) rfl (u8s x1) ((HP1.out).range hw.2.2.2.2.1) ((szH KX1.out))) ⟨D_360, E_360, A_360, B_360, Y_360, Z_360, trivial⟩ ?_
                              simp only [Act.put, List.setIfInBounds_toArray, List.set_cons_zero, List.set_cons_succ]
                              refine h_take 11 (.int .i64 (k : Int)) rfl 137 rfl (by kernel_rfl) (by kernel_rfl) (by kernel_rfl) (by kernel_rfl) (fun _ _ _ h => h) (fun w' _ => by kernel_rfl) ⟨D_360, E_360, A_360, B_360, Y_360, Z_360, trivial⟩ ?_
                              simp only [Act.put, List.setIfInBounds_toArray, List.set_cons_zero, List.set_cons_succ]
                              refine h_take 12 (.pointer (some ⟨Z, 32 * k, none⟩)) rfl 138 rfl (by kernel_rfl) (by kernel_rfl) (by kernel_rfl) (by kernel_rfl) (fun _ _ _ h => h) (fun w' _ => run_op_arr _ _ _ rfl 4 23 32 (by kernel_rfl) (by kernel_rfl) Z 0 rfl .i64 _ rfl k rfl HLK.out (32 * k) (by omega) w') ⟨D_360, E_360, A_360, B_360, Y_360, Z_360, trivial⟩ ?_
                              simp only [Act.put, List.setIfInBounds_toArray, List.set_cons_zero, List.set_cons_succ]
                              refine h_take 13 (.agg (u8s x2).toArray) rfl 139 rfl (by kernel_rfl) (by kernel_rfl) (by kernel_rfl) (by kernel_rfl) (fun _ _ _ h => h) (fun w' hw => run_op_load _ _ rfl Z (32 * k) rfl (u8s x2) ((HP2.out).range hw.2.2.2.2.2.1) ((szH KX2.out))) ⟨D_360, E_360, A_360, B_360, Y_360, Z_360, trivial⟩ ?_
                              simp only [Act.put, List.setIfInBounds_toArray, List.set_cons_zero, List.set_cons_succ]
                              refine h_take 14 (.bool false) rfl 140 rfl (by kernel_rfl) (by kernel_rfl) (by kernel_rfl) (by kernel_rfl) (fun _ _ _ h => h) (fun w' _ => run_op_neqD KX1.out KX2.out _ _ _ rfl rfl rfl true (iff_of_true rfl HQ3.out) w') ⟨D_360, E_360, A_360, B_360, Y_360, Z_360, trivial⟩ ?_
                              simp only [Act.put, List.setIfInBounds_toArray, List.set_cons_zero, List.set_cons_succ]
                              refine h_take 15 (.bool false) rfl 141 rfl (by kernel_rfl) (by kernel_rfl) (by kernel_rfl) (by kernel_rfl) (fun _ _ _ h => h) (fun w' _ => by kernel_rfl) ⟨D_360, E_360, A_360, B_360, Y_360, Z_360, trivial⟩ ?_
                              simp only [Act.put, List.setIfInBounds_toArray, List.set_cons_zero, List.set_cons_succ]
                              refine h_take 16 (.bool false) rfl 142 rfl (by kernel_rfl) (by kernel_rfl) (by kernel_rfl) (by kernel_rfl) (fun _ _ _ h => h) (fun w' _ => by kernel_rfl) ⟨D_360, E_360, A_360, B_360, Y_360, Z_360, trivial⟩ ?_
                              simp only [Act.put, List.setIfInBounds_toArray, List.set_cons_zero, List.set_cons_succ]
                              refine wpAnyH_done (by kernel_rfl) ?_ _
                              go_wp2_with fail
                              try simp only [Act.put]
                              go_roundw
                              case rel => exact ⟨⟨k + 1, by omega, by go_num, HN1.out ▸ D_360, HN2.out ▸ E_360, fun j hj => by
                                rcases Nat.lt_or_ge j k with h | h
                                · exact HNO.out j h
                                · obtain rfl : j = k := by omega
                                  exact fun hh => hh.2.elim (fun g => g (by rw [← HE1.out, ← HE2.out]; exact HQ2.out)) (fun g => g (by rw [← HX1.out, ← HX2.out]; exact HQ3.out))⟩, Y_360, Z_360, bel_360⟩
                              case measure => simp [intOf]; omega
                            · have HQ3 := Lib.hid hq3
                              clear hq3
                              refine wp_region_held (S := fun w' => Row w' D 23 (u8s n1) ∧ Row w' E 23 (u8s n2) ∧ Row w' A 23 (u8s e1) ∧ Row w' B 23 (u8s e2) ∧ Row w' Y 29 (dgC L) ∧ Row w' Z 29 (dgC M) ∧ True) (by kernel_rfl) ?_
                              change wpAnyH _ _ _ _ _ _ _ _ wc.drew
                              have hd359 : Below wc.heap.size wc wc.drew := (Below.refl _ _).drew
                              have D_360 : Row wc.drew D 23 (u8s n1) := rD.old hd359
                              have E_360 : Row wc.drew E 23 (u8s n2) := rE.old hd359
                              have Y_360 : Row wc.drew Y 29 (dgC L) := rY.old hd359
                              have Z_360 : Row wc.drew Z 29 (dgC M) := rZ.old hd359
                              have A_360 : Row wc.drew A 23 (u8s e1) := rA.old hd359
                              have B_360 : Row wc.drew B 23 (u8s e2) := rB.old hd359
                              have bel_360 : Below w.heap.size w wc.drew := below_step belc belc.size hd359
                              clear rD rE rY rZ rA rB belc hd359
                              generalize wc.drew = yz359 at D_360 E_360 Y_360 Z_360 A_360 B_360 bel_360 ⊢
                              refine h_take 0 (.agg (u8s n1).toArray) rfl 126 rfl (by kernel_rfl) (by kernel_rfl) (by kernel_rfl) (by kernel_rfl) (fun _ _ _ h => h) (fun w' hw => run_op_load _ _ rfl D (0) rfl (u8s n1) (((Has.refl _)).range hw.1) ((szH KN1.out))) ⟨D_360, E_360, A_360, B_360, Y_360, Z_360, trivial⟩ ?_
                              simp only [Act.put, List.setIfInBounds_toArray, List.set_cons_zero, List.set_cons_succ]
                              refine h_take 1 (.agg (u8s n2).toArray) rfl 127 rfl (by kernel_rfl) (by kernel_rfl) (by kernel_rfl) (by kernel_rfl) (fun _ _ _ h => h) (fun w' hw => run_op_load _ _ rfl E (0) rfl (u8s n2) (((Has.refl _)).range hw.2.1) ((szH KN2.out))) ⟨D_360, E_360, A_360, B_360, Y_360, Z_360, trivial⟩ ?_
                              simp only [Act.put, List.setIfInBounds_toArray, List.set_cons_zero, List.set_cons_succ]
                              refine h_take 2 (.bool true) rfl 128 rfl (by kernel_rfl) (by kernel_rfl) (by kernel_rfl) (by kernel_rfl) (fun _ _ _ h => h) (fun w' _ => run_op_eqlD KN1.out KN2.out _ _ _ rfl rfl rfl true (iff_of_true rfl HQ1.out) w') ⟨D_360, E_360, A_360, B_360, Y_360, Z_360, trivial⟩ ?_
                              simp only [Act.put, List.setIfInBounds_toArray, List.set_cons_zero, List.set_cons_succ]
                              refine h_take 3 (.bool true) rfl 129 rfl (by kernel_rfl) (by kernel_rfl) (by kernel_rfl) (by kernel_rfl) (fun _ _ _ h => h) (fun w' _ => by kernel_rfl) ⟨D_360, E_360, A_360, B_360, Y_360, Z_360, trivial⟩ ?_
                              simp only [Act.put, List.setIfInBounds_toArray, List.set_cons_zero, List.set_cons_succ]
                              refine h_take 4 (.agg (u8s e1).toArray) rfl 130 rfl (by kernel_rfl) (by kernel_rfl) (by kernel_rfl) (by kernel_rfl) (fun _ _ _ h => h) (fun w' hw => run_op_load _ _ rfl A (0) rfl (u8s e1) (((Has.refl _)).range hw.2.2.1) ((szH KE1.out))) ⟨D_360, E_360, A_360, B_360, Y_360, Z_360, trivial⟩ ?_
                              simp only [Act.put, List.setIfInBounds_toArray, List.set_cons_zero, List.set_cons_succ]
                              refine h_take 5 (.agg (u8s e2).toArray) rfl 131 rfl (by kernel_rfl) (by kernel_rfl) (by kernel_rfl) (by kernel_rfl) (fun _ _ _ h => h) (fun w' hw => run_op_load _ _ rfl B (0) rfl (u8s e2) (((Has.refl _)).range hw.2.2.2.1) ((szH KE2.out))) ⟨D_360, E_360, A_360, B_360, Y_360, Z_360, trivial⟩ ?_
                              simp only [Act.put, List.setIfInBounds_toArray, List.set_cons_zero, List.set_cons_succ]
                              refine h_take 6 (.bool false) rfl 132 rfl (by kernel_rfl) (by kernel_rfl) (by kernel_rfl) (by kernel_rfl) (fun _ _ _ h => h) (fun w' _ => run_op_neqD KE1.out KE2.out _ _ _ rfl rfl rfl true (iff_of_true rfl HQ2.out) w') ⟨D_360, E_360, A_360, B_360, Y_360, Z_360, trivial⟩ ?_
                              simp only [Act.put, List.setIfInBounds_toArray, List.set_cons_zero, List.set_cons_succ]
                              refine h_take 7 (.bool false) rfl 133 rfl (by kernel_rfl) (by kernel_rfl) (by kernel_rfl) (by kernel_rfl) (fun _ _ _ h => h) (fun w' _ => by kernel_rfl) ⟨D_360, E_360, A_360, B_360, Y_360, Z_360, trivial⟩ ?_
                              simp only [Act.put, List.setIfInBounds_toArray, List.set_cons_zero, List.set_cons_succ]
                              refine h_take 8 (.int .i64 (k : Int)) rfl 134 rfl (by kernel_rfl) (by kernel_rfl) (by kernel_rfl) (by kernel_rfl) (fun _ _ _ h => h) (fun w' _ => by kernel_rfl) ⟨D_360, E_360, A_360, B_360, Y_360, Z_360, trivial⟩ ?_
                              simp only [Act.put, List.setIfInBounds_toArray, List.set_cons_zero, List.set_cons_succ]
                              refine h_take 9 (.pointer (some ⟨Y, 32 * k, none⟩)) rfl 135 rfl (by kernel_rfl) (by kernel_rfl) (by kernel_rfl) (by kernel_rfl) (fun _ _ _ h => h) (fun w' _ => run_op_arr _ _ _ rfl 4 23 32 (by kernel_rfl) (by kernel_rfl) Y 0 rfl .i64 _ rfl k rfl HLK.out (32 * k) (by omega) w') ⟨D_360, E_360, A_360, B_360, Y_360, Z_360, trivial⟩ ?_
                              simp only [Act.put, List.setIfInBounds_toArray, List.set_cons_zero, List.set_cons_succ]
                              refine h_take 10 (.agg (u8s x1).toArray) rfl 136 rfl (by kernel_rfl) (by kernel_rfl) (by kernel_rfl) (by kernel_rfl) (fun _ _ _ h => h) (fun w' hw => run_op_load _ _ rfl Y (32 * k) rfl (u8s x1) ((HP1.out).range hw.2.2.2.2.1) ((szH KX1.out))) ⟨D_360, E_360, A_360, B_360, Y_360, Z_360, trivial⟩ ?_
                              simp only [Act.put, List.setIfInBounds_toArray, List.set_cons_zero, List.set_cons_succ]
                              refine h_take 11 (.int .i64 (k : Int)) rfl 137 rfl (by kernel_rfl) (by kernel_rfl) (by kernel_rfl) (by kernel_rfl) (fun _ _ _ h => h) (fun w' _ => by kernel_rfl) ⟨D_360, E_360, A_360, B_360, Y_360, Z_360, trivial⟩ ?_
                              simp only [Act.put, List.setIfInBounds_toArray, List.set_cons_zero, List.set_cons_succ]
                              refine h_take 12 (.pointer (some ⟨Z, 32 * k, none⟩)) rfl 138 rfl (by kernel_rfl) (by kernel_rfl) (by kernel_rfl) (by kernel_rfl) (fun _ _ _ h => h) (fun w' _ => run_op_arr _ _ _ rfl 4 23 32 (by kernel_rfl) (by kernel_rfl) Z 0 rfl .i64 _ rfl k rfl HLK.out (32 * k) (by omega) w') ⟨D_360, E_360, A_360, B_360, Y_360, Z_360, trivial⟩ ?_
                              simp only [Act.put, List.setIfInBounds_toArray, List.set_cons_zero, List.set_cons_succ]
                              refine h_take 13 (.agg (u8s x2).toArray) rfl 139 rfl (by kernel_rfl) (by kernel_rfl) (by kernel_rfl) (by kernel_rfl) (fun _ _ _ h => h) (fun w' hw => run_op_load _ _ rfl Z (32 * k) rfl (u8s x2) ((HP2.out).range hw.2.2.2.2.2.1) ((szH KX2.out))) ⟨D_360, E_360, A_360, B_360, Y_360, Z_360, trivial⟩ ?_
                              simp only [Act.put, List.setIfInBounds_toArray, List.set_cons_zero, List.set_cons_succ]
                              refine h_take 14 (.bool true) rfl 140 rfl (by kernel_rfl) (by kernel_rfl) (by kernel_rfl) (by kernel_rfl) (fun _ _ _ h => h) (fun w' _ => run_op_neqD KX1.out KX2.out _ _ _ rfl rfl rfl false (iff_of_false Bool.false_ne_true HQ3.out) w') ⟨D_360, E_360, A_360, B_360, Y_360, Z_360, trivial⟩ ?_
                              simp only [Act.put, List.setIfInBounds_toArray, List.set_cons_zero, List.set_cons_succ]
                              refine h_take 15 (.bool true) rfl 141 rfl (by kernel_rfl) (by kernel_rfl) (by kernel_rfl) (by kernel_rfl) (fun _ _ _ h => h) (fun w' _ => by kernel_rfl) ⟨D_360, E_360, A_360, B_360, Y_360, Z_360, trivial⟩ ?_
                              simp only [Act.put, List.setIfInBounds_toArray, List.set_cons_zero, List.set_cons_succ]
                              refine h_take 16 (.bool true) rfl 142 rfl (by kernel_rfl) (by kernel_rfl) (by kernel_rfl) (by kernel_rfl) (fun _ _ _ h => h) (fun w' _ => by kernel_rfl) ⟨D_360, E_360, A_360, B_360, Y_360, Z_360, trivial⟩ ?_
                              simp only [Act.put, List.setIfInBounds_toArray, List.set_cons_zero, List.set_cons_succ]
                              refine wpAnyH_done (by kernel_rfl) ?_ _
                              go_wp2_with fail
                              try simp only [Act.put]
                              go_ret
                              exact ⟨rfl, bel_360⟩
                          · have HQ2 := Lib.hid hq2
                            clear hq2
                            refine wp_region_held (S := fun w' => Row w' D 23 (u8s n1) ∧ Row w' E 23 (u8s n2) ∧ Row w' A 23 (u8s e1) ∧ Row w' B 23 (u8s e2) ∧ Row w' Y 29 (dgC L) ∧ Row w' Z 29 (dgC M) ∧ True) (by kernel_rfl) ?_
                            change wpAnyH _ _ _ _ _ _ _ _ wc.drew
                            have hd359 : Below wc.heap.size wc wc.drew := (Below.refl _ _).drew
                            have D_360 : Row wc.drew D 23 (u8s n1) := rD.old hd359
                            have E_360 : Row wc.drew E 23 (u8s n2) := rE.old hd359
                            have Y_360 : Row wc.drew Y 29 (dgC L) := rY.old hd359
                            have Z_360 : Row wc.drew Z 29 (dgC M) := rZ.old hd359
                            have A_360 : Row wc.drew A 23 (u8s e1) := rA.old hd359
                            have B_360 : Row wc.drew B 23 (u8s e2) := rB.old hd359
                            have bel_360 : Below w.heap.size w wc.drew := below_step belc belc.size hd359
                            clear rD rE rY rZ rA rB belc hd359
                            generalize wc.drew = yz359 at D_360 E_360 Y_360 Z_360 A_360 B_360 bel_360 ⊢
                            refine h_take 0 (.agg (u8s n1).toArray) rfl 126 rfl (by kernel_rfl) (by kernel_rfl) (by kernel_rfl) (by kernel_rfl) (fun _ _ _ h => h) (fun w' hw => run_op_load _ _ rfl D (0) rfl (u8s n1) (((Has.refl _)).range hw.1) ((szH KN1.out))) ⟨D_360, E_360, A_360, B_360, Y_360, Z_360, trivial⟩ ?_
                            simp only [Act.put, List.setIfInBounds_toArray, List.set_cons_zero, List.set_cons_succ]
                            refine h_take 1 (.agg (u8s n2).toArray) rfl 127 rfl (by kernel_rfl) (by kernel_rfl) (by kernel_rfl) (by kernel_rfl) (fun _ _ _ h => h) (fun w' hw => run_op_load _ _ rfl E (0) rfl (u8s n2) (((Has.refl _)).range hw.2.1) ((szH KN2.out))) ⟨D_360, E_360, A_360, B_360, Y_360, Z_360, trivial⟩ ?_
                            simp only [Act.put, List.setIfInBounds_toArray, List.set_cons_zero, List.set_cons_succ]
                            refine h_take 2 (.bool true) rfl 128 rfl (by kernel_rfl) (by kernel_rfl) (by kernel_rfl) (by kernel_rfl) (fun _ _ _ h => h) (fun w' _ => run_op_eqlD KN1.out KN2.out _ _ _ rfl rfl rfl true (iff_of_true rfl HQ1.out) w') ⟨D_360, E_360, A_360, B_360, Y_360, Z_360, trivial⟩ ?_
                            simp only [Act.put, List.setIfInBounds_toArray, List.set_cons_zero, List.set_cons_succ]
                            refine h_take 3 (.bool true) rfl 129 rfl (by kernel_rfl) (by kernel_rfl) (by kernel_rfl) (by kernel_rfl) (fun _ _ _ h => h) (fun w' _ => by kernel_rfl) ⟨D_360, E_360, A_360, B_360, Y_360, Z_360, trivial⟩ ?_
                            simp only [Act.put, List.setIfInBounds_toArray, List.set_cons_zero, List.set_cons_succ]
                            refine h_take 4 (.agg (u8s e1).toArray) rfl 130 rfl (by kernel_rfl) (by kernel_rfl) (by kernel_rfl) (by kernel_rfl) (fun _ _ _ h => h) (fun w' hw => run_op_load _ _ rfl A (0) rfl (u8s e1) (((Has.refl _)).range hw.2.2.1) ((szH KE1.out))) ⟨D_360, E_360, A_360, B_360, Y_360, Z_360, trivial⟩ ?_
                            simp only [Act.put, List.setIfInBounds_toArray, List.set_cons_zero, List.set_cons_succ]
                            refine h_take 5 (.agg (u8s e2).toArray) rfl 131 rfl (by kernel_rfl) (by kernel_rfl) (by kernel_rfl) (by kernel_rfl) (fun _ _ _ h => h) (fun w' hw => run_op_load _ _ rfl B (0) rfl (u8s e2) (((Has.refl _)).range hw.2.2.2.1) ((szH KE2.out))) ⟨D_360, E_360, A_360, B_360, Y_360, Z_360, trivial⟩ ?_
                            simp only [Act.put, List.setIfInBounds_toArray, List.set_cons_zero, List.set_cons_succ]
                            refine h_take 6 (.bool true) rfl 132 rfl (by kernel_rfl) (by kernel_rfl) (by kernel_rfl) (by kernel_rfl) (fun _ _ _ h => h) (fun w' _ => run_op_neqD KE1.out KE2.out _ _ _ rfl rfl rfl false (iff_of_false Bool.false_ne_true HQ2.out) w') ⟨D_360, E_360, A_360, B_360, Y_360, Z_360, trivial⟩ ?_
                            simp only [Act.put, List.setIfInBounds_toArray, List.set_cons_zero, List.set_cons_succ]
                            refine h_take 7 (.bool true) rfl 133 rfl (by kernel_rfl) (by kernel_rfl) (by kernel_rfl) (by kernel_rfl) (fun _ _ _ h => h) (fun w' _ => by kernel_rfl) ⟨D_360, E_360, A_360, B_360, Y_360, Z_360, trivial⟩ ?_
                            simp only [Act.put, List.setIfInBounds_toArray, List.set_cons_zero, List.set_cons_succ]
                            refine h_pass 8 rfl 134 rfl (by kernel_rfl) (by kernel_rfl) (by kernel_rfl) (by kernel_rfl) (fun _ _ _ h => h) ⟨D_360, E_360, A_360, B_360, Y_360, Z_360, trivial⟩ ?_
                            simp only [Act.put, List.setIfInBounds_toArray, List.set_cons_zero, List.set_cons_succ]
                            refine h_pass 9 rfl 135 rfl (by kernel_rfl) (by kernel_rfl) (by kernel_rfl) (by kernel_rfl) (fun _ _ _ h => h) ⟨D_360, E_360, A_360, B_360, Y_360, Z_360, trivial⟩ ?_
                            simp only [Act.put, List.setIfInBounds_toArray, List.set_cons_zero, List.set_cons_succ]
                            refine h_pass 10 rfl 136 rfl (by kernel_rfl) (by kernel_rfl) (by kernel_rfl) (by kernel_rfl) (fun _ _ _ h => h) ⟨D_360, E_360, A_360, B_360, Y_360, Z_360, trivial⟩ ?_
                            simp only [Act.put, List.setIfInBounds_toArray, List.set_cons_zero, List.set_cons_succ]
                            refine h_pass 11 rfl 137 rfl (by kernel_rfl) (by kernel_rfl) (by kernel_rfl) (by kernel_rfl) (fun _ _ _ h => h) ⟨D_360, E_360, A_360, B_360, Y_360, Z_360, trivial⟩ ?_
                            simp only [Act.put, List.setIfInBounds_toArray, List.set_cons_zero, List.set_cons_succ]
                            refine h_pass 12 rfl 138 rfl (by kernel_rfl) (by kernel_rfl) (by kernel_rfl) (by kernel_rfl) (fun _ _ _ h => h) ⟨D_360, E_360, A_360, B_360, Y_360, Z_360, trivial⟩ ?_
                            simp only [Act.put, List.setIfInBounds_toArray, List.set_cons_zero, List.set_cons_succ]
                            refine h_pass 13 rfl 139 rfl (by kernel_rfl) (by kernel_rfl) (by kernel_rfl) (by kernel_rfl) (fun _ _ _ h => h) ⟨D_360, E_360, A_360, B_360, Y_360, Z_360, trivial⟩ ?_
                            simp only [Act.put, List.setIfInBounds_toArray, List.set_cons_zero, List.set_cons_succ]
                            refine h_pass 14 rfl 140 rfl (by kernel_rfl) (by kernel_rfl) (by kernel_rfl) (by kernel_rfl) (fun _ _ _ h => h) ⟨D_360, E_360, A_360, B_360, Y_360, Z_360, trivial⟩ ?_
                            simp only [Act.put, List.setIfInBounds_toArray, List.set_cons_zero, List.set_cons_succ]
                            refine h_take 15 (.bool true) rfl 141 rfl (by kernel_rfl) (by kernel_rfl) (by kernel_rfl) (by kernel_rfl) (fun _ _ _ h => h) (fun w' _ => by kernel_rfl) ⟨D_360, E_360, A_360, B_360, Y_360, Z_360, trivial⟩ ?_
                            simp only [Act.put, List.setIfInBounds_toArray, List.set_cons_zero, List.set_cons_succ]
                            refine h_take 16 (.bool true) rfl 142 rfl (by kernel_rfl) (by kernel_rfl) (by kernel_rfl) (by kernel_rfl) (fun _ _ _ h => h) (fun w' _ => by kernel_rfl) ⟨D_360, E_360, A_360, B_360, Y_360, Z_360, trivial⟩ ?_
                            simp only [Act.put, List.setIfInBounds_toArray, List.set_cons_zero, List.set_cons_succ]
                            refine wpAnyH_done (by kernel_rfl) ?_ _
                            go_wp2_with fail
                            try simp only [Act.put]
                            go_ret
                            exact ⟨rfl, bel_360⟩
                        · have HQ1 := Lib.hid hq1
                          clear hq1
                          refine wp_region_held (S := fun w' => Row w' D 23 (u8s n1) ∧ Row w' E 23 (u8s n2) ∧ Row w' A 23 (u8s e1) ∧ Row w' B 23 (u8s e2) ∧ Row w' Y 29 (dgC L) ∧ Row w' Z 29 (dgC M) ∧ True) (by kernel_rfl) ?_
                          change wpAnyH _ _ _ _ _ _ _ _ wc.drew
                          have hd359 : Below wc.heap.size wc wc.drew := (Below.refl _ _).drew
                          have D_360 : Row wc.drew D 23 (u8s n1) := rD.old hd359
                          have E_360 : Row wc.drew E 23 (u8s n2) := rE.old hd359
                          have Y_360 : Row wc.drew Y 29 (dgC L) := rY.old hd359
                          have Z_360 : Row wc.drew Z 29 (dgC M) := rZ.old hd359
                          have A_360 : Row wc.drew A 23 (u8s e1) := rA.old hd359
                          have B_360 : Row wc.drew B 23 (u8s e2) := rB.old hd359
                          have bel_360 : Below w.heap.size w wc.drew := below_step belc belc.size hd359
                          clear rD rE rY rZ rA rB belc hd359
                          generalize wc.drew = yz359 at D_360 E_360 Y_360 Z_360 A_360 B_360 bel_360 ⊢
                          refine h_take 0 (.agg (u8s n1).toArray) rfl 126 rfl (by kernel_rfl) (by kernel_rfl) (by kernel_rfl) (by kernel_rfl) (fun _ _ _ h => h) (fun w' hw => run_op_load _ _ rfl D (0) rfl (u8s n1) (((Has.refl _)).range hw.1) ((szH KN1.out))) ⟨D_360, E_360, A_360, B_360, Y_360, Z_360, trivial⟩ ?_
                          simp only [Act.put, List.setIfInBounds_toArray, List.set_cons_zero, List.set_cons_succ]
                          refine h_take 1 (.agg (u8s n2).toArray) rfl 127 rfl (by kernel_rfl) (by kernel_rfl) (by kernel_rfl) (by kernel_rfl) (fun _ _ _ h => h) (fun w' hw => run_op_load _ _ rfl E (0) rfl (u8s n2) (((Has.refl _)).range hw.2.1) ((szH KN2.out))) ⟨D_360, E_360, A_360, B_360, Y_360, Z_360, trivial⟩ ?_
                          simp only [Act.put, List.setIfInBounds_toArray, List.set_cons_zero, List.set_cons_succ]
                          refine h_take 2 (.bool false) rfl 128 rfl (by kernel_rfl) (by kernel_rfl) (by kernel_rfl) (by kernel_rfl) (fun _ _ _ h => h) (fun w' _ => run_op_eqlD KN1.out KN2.out _ _ _ rfl rfl rfl false (iff_of_false Bool.false_ne_true HQ1.out) w') ⟨D_360, E_360, A_360, B_360, Y_360, Z_360, trivial⟩ ?_
                          simp only [Act.put, List.setIfInBounds_toArray, List.set_cons_zero, List.set_cons_succ]
                          refine h_take 3 (.bool false) rfl 129 rfl (by kernel_rfl) (by kernel_rfl) (by kernel_rfl) (by kernel_rfl) (fun _ _ _ h => h) (fun w' _ => by kernel_rfl) ⟨D_360, E_360, A_360, B_360, Y_360, Z_360, trivial⟩ ?_
                          simp only [Act.put, List.setIfInBounds_toArray, List.set_cons_zero, List.set_cons_succ]
                          refine h_pass 4 rfl 130 rfl (by kernel_rfl) (by kernel_rfl) (by kernel_rfl) (by kernel_rfl) (fun _ _ _ h => h) ⟨D_360, E_360, A_360, B_360, Y_360, Z_360, trivial⟩ ?_
                          simp only [Act.put, List.setIfInBounds_toArray, List.set_cons_zero, List.set_cons_succ]
                          refine h_pass 5 rfl 131 rfl (by kernel_rfl) (by kernel_rfl) (by kernel_rfl) (by kernel_rfl) (fun _ _ _ h => h) ⟨D_360, E_360, A_360, B_360, Y_360, Z_360, trivial⟩ ?_
                          simp only [Act.put, List.setIfInBounds_toArray, List.set_cons_zero, List.set_cons_succ]
                          refine h_pass 6 rfl 132 rfl (by kernel_rfl) (by kernel_rfl) (by kernel_rfl) (by kernel_rfl) (fun _ _ _ h => h) ⟨D_360, E_360, A_360, B_360, Y_360, Z_360, trivial⟩ ?_
                          simp only [Act.put, List.setIfInBounds_toArray, List.set_cons_zero, List.set_cons_succ]
                          refine h_pass 7 rfl 133 rfl (by kernel_rfl) (by kernel_rfl) (by kernel_rfl) (by kernel_rfl) (fun _ _ _ h => h) ⟨D_360, E_360, A_360, B_360, Y_360, Z_360, trivial⟩ ?_
                          simp only [Act.put, List.setIfInBounds_toArray, List.set_cons_zero, List.set_cons_succ]
                          refine h_pass 8 rfl 134 rfl (by kernel_rfl) (by kernel_rfl) (by kernel_rfl) (by kernel_rfl) (fun _ _ _ h => h) ⟨D_360, E_360, A_360, B_360, Y_360, Z_360, trivial⟩ ?_
                          simp only [Act.put, List.setIfInBounds_toArray, List.set_cons_zero, List.set_cons_succ]
                          refine h_pass 9 rfl 135 rfl (by kernel_rfl) (by kernel_rfl) (by kernel_rfl) (by kernel_rfl) (fun _ _ _ h => h) ⟨D_360, E_360, A_360, B_360, Y_360, Z_360, trivial⟩ ?_
                          simp only [Act.put, List.setIfInBounds_toArray, List.set_cons_zero, List.set_cons_succ]
                          refine h_pass 10 rfl 136 rfl (by kernel_rfl) (by kernel_rfl) (by kernel_rfl) (by kernel_rfl) (fun _ _ _ h => h) ⟨D_360, E_360, A_360, B_360, Y_360, Z_360, trivial⟩ ?_
                          simp only [Act.put, List.setIfInBounds_toArray, List.set_cons_zero, List.set_cons_succ]
                          refine h_pass 11 rfl 137 rfl (by kernel_rfl) (by kernel_rfl) (by kernel_rfl) (by kernel_rfl) (fun _ _ _ h => h) ⟨D_360, E_360, A_360, B_360, Y_360, Z_360, trivial⟩ ?_
                          simp only [Act.put, List.setIfInBounds_toArray, List.set_cons_zero, List.set_cons_succ]
                          refine h_pass 12 rfl 138 rfl (by kernel_rfl) (by kernel_rfl) (by kernel_rfl) (by kernel_rfl) (fun _ _ _ h => h) ⟨D_360, E_360, A_360, B_360, Y_360, Z_360, trivial⟩ ?_
                          simp only [Act.put, List.setIfInBounds_toArray, List.set_cons_zero, List.set_cons_succ]
                          refine h_pass 13 rfl 139 rfl (by kernel_rfl) (by kernel_rfl) (by kernel_rfl) (by kernel_rfl) (fun _ _ _ h => h) ⟨D_360, E_360, A_360, B_360, Y_360, Z_360, trivial⟩ ?_
                          simp only [Act.put, List.setIfInBounds_toArray, List.set_cons_zero, List.set_cons_succ]
                          refine h_pass 14 rfl 140 rfl (by kernel_rfl) (by kernel_rfl) (by kernel_rfl) (by kernel_rfl) (fun _ _ _ h => h) ⟨D_360, E_360, A_360, B_360, Y_360, Z_360, trivial⟩ ?_
                          simp only [Act.put, List.setIfInBounds_toArray, List.set_cons_zero, List.set_cons_succ]
                          refine h_pass 15 rfl 141 rfl (by kernel_rfl) (by kernel_rfl) (by kernel_rfl) (by kernel_rfl) (fun _ _ _ h => h) ⟨D_360, E_360, A_360, B_360, Y_360, Z_360, trivial⟩ ?_
                          simp only [Act.put, List.setIfInBounds_toArray, List.set_cons_zero, List.set_cons_succ]
                          refine h_take 16 (.bool false) rfl 142 rfl (by kernel_rfl) (by kernel_rfl) (by kernel_rfl) (by kernel_rfl) (fun _ _ _ h => h) (fun w' _ => by kernel_rfl) ⟨D_360, E_360, A_360, B_360, Y_360, Z_360, trivial⟩ ?_
                          simp only [Act.put, List.setIfInBounds_toArray, List.set_cons_zero, List.set_cons_succ]
                          refine wpAnyH_done (by kernel_rfl) ?_ _
                          go_wp2_with fail
                          try simp only [Act.put]
                          go_roundw
                          case rel => exact ⟨⟨k + 1, by omega, by go_num, HN1.out ▸ D_360, HN2.out ▸ E_360, fun j hj => by
                            rcases Nat.lt_or_ge j k with h | h
                            · exact HNO.out j h
                            · obtain rfl : j = k := by omega
                              exact fun hh => HQ1.out (by rw [HN1.out, HN2.out]; exact hh.1)⟩, Y_360, Z_360, bel_360⟩
                          case measure => simp [intOf]; omega
                  · obtain rfl : k = 4 := by omega
                    obtain ⟨n, hn4, hn1, hn2⟩ := moved HI.out HNE.out (show leadK q L leaf 4 = leadK q M leaf 4 by rw [← HDL.out, ← HDM.out]; exact HEQ.out)
                    exact absurd ⟨hn1, hn2⟩ (HNO.out n hn4)
              · have HEQ := Lib.hid heq
                clear heq
                go_enter Tryd.func6, Tryd.ntmps6
                go_wp2_with (first
                  | ((with_reducible refine at_slot 6 ?_); (refine arm_box (o := ⟨some 6, _, _, _, _, _⟩) rfl _ _ rfl (u8s leaf) rfl ?_); intro X v1 Xe hv1 nv1; try simp only [Act.put, List.setIfInBounds_toArray, List.set_cons_zero, List.set_cons_succ])
                  | ((with_reducible refine at_slot 8 ?_); (refine arm_box (o := ⟨some 8, _, _, _, _, _⟩) rfl _ _ rfl (dgC L) rfl ?_); intro Y v2 Ye hv2 nv2; try simp only [Act.put, List.setIfInBounds_toArray, List.set_cons_zero, List.set_cons_succ]))
                have hbv1 := nv1.below
                have rrv1 : Row v1 X 23 (u8s leaf) := hv1
                have hbv2 := nv2.below
                have rrv2 : Row v2 Y 29 (dgC L) := hv2
                have geX : w.heap.size ≤ X := by have := Xe.out; omega
                clear hv1 nv1 Xe
                have bel_3 : Below w.heap.size w v1 := hbv1
                clear hbv1
                have geY : w.heap.size ≤ Y := by have := Ye.out; have := bel_3.size; omega
                have ltXY : X < Y := by have := Ye.out; have := rrv1.lt; omega
                clear hv2 nv2 Ye
                have X_4 : Row v2 X 23 (u8s leaf) := rrv1.old hbv2
                have bel_4 : Below w.heap.size w v2 := below_step bel_3 bel_3.size hbv2
                clear rrv1 bel_3 hbv2
                refine (CA.out _ (HKW.out _ bel_4)).mono ?_
                rintro e y5 ⟨rfl, hB⟩
                have X_6 : Row y5 X 23 (u8s leaf) := X_4.old hB
                have Y_6 : Row y5 Y 29 (dgC L) := rrv2.old hB
                have bel_6 : Below w.heap.size w y5 := below_step bel_4 bel_4.size hB
                clear X_4 rrv2 bel_4 hB
                go_wp2_with (first
                  | ((with_reducible refine at_slot 42 ?_); (refine arm_want (.pointer (some ⟨Y, i * 32, none⟩)) 42 rfl (by kernel_rfl) (run_op_arr _ _ _ rfl 4 23 32 (by kernel_rfl) (by kernel_rfl) Y 0 rfl .i64 _ rfl i rfl HI.out (i * 32) (by omega) _) ?_); try simp only [Act.put, List.setIfInBounds_toArray, List.set_cons_zero, List.set_cons_succ])
                  | ((with_reducible refine at_slot 43 ?_); (refine arm_want (.pointer (some ⟨Y, i * 32 + j, none⟩)) 43 rfl (by kernel_rfl) (run_op_arr _ _ _ rfl 32 5 1 (by kernel_rfl) (by kernel_rfl) Y (i * 32) rfl .i64 _ rfl j rfl HJ.out (i * 32 + j) (by omega) _) ?_); try simp only [Act.put, List.setIfInBounds_toArray, List.set_cons_zero, List.set_cons_succ])
                  | ((with_reducible refine at_slot 44 ?_); (refine arm_want (.int .u8 (x : Int)) 44 rfl (by kernel_rfl) (run_op_load8 _ rfl ⟨Y, i * 32 + j, none⟩ rfl _ (Y_6.cell HCELL.out)) ?_); try simp only [Act.put, List.setIfInBounds_toArray, List.set_cons_zero, List.set_cons_succ])
                  | ((with_reducible refine at_slot 46 ?_); (refine arm_want (.bool false) 46 rfl (by kernel_rfl) (cmp_eql _ _ .u8 (by kernel_rfl) _ _ rfl .u8 ((x : Int)) ((c : Int)) rfl rfl false (HXC.out) _) ?_); try simp only [Act.put, List.setIfInBounds_toArray, List.set_cons_zero, List.set_cons_succ])
                  | ((with_reducible refine at_slot 48 ?_); (refine arm_load (o := ⟨some 48, _, _, _, _, _⟩) rfl _ _ rfl Y 0 rfl (dgC L) ((Has.refl _).range Y_6) SP.out ?_); try simp only [Act.put, List.setIfInBounds_toArray, List.set_cons_zero, List.set_cons_succ])
                  | ((with_reducible refine at_slot 13 ?_); (refine pause ?_); try simp only [Act.put, List.setIfInBounds_toArray, List.set_cons_zero, List.set_cons_succ]))
                refine go_on ?_
                go_wp2_with (first
                  | ((with_reducible refine at_slot 13 ?_); (refine arm_alloc (o := ⟨some 13, _, _, _, _, _⟩) rfl _ rfl (dgC z4) z_path ?_); intro Z v7a Ze hZa nZ; try simp only [Act.put, List.setIfInBounds_toArray, List.set_cons_zero, List.set_cons_succ])
                  | ((with_reducible refine arm_store (o := ⟨none, _, _, _, _, _⟩) rfl _ _ _ rfl Z 0 rfl (dgC L) rfl _ _ hZa FP.out (dgC_ones _) SP.out ?_); intro v7 hZb oZ sZ; try simp only [Act.put, List.setIfInBounds_toArray, List.set_cons_zero, List.set_cons_succ])
                  | ((with_reducible refine arm_storeV (o := ⟨none, _, _, _, _, _⟩) rfl _ _ _ rfl Z (i * 32 + j) rfl (.int .u8 (c : Int)) rfl (one_i _ _) sz_u8 _ _ (hZb.congr AP.out) (HLT.out) ?_); intro wz hz oz sz; refine pause ?_; try simp only [Act.put, List.setIfInBounds_toArray, List.set_cons_zero, List.set_cons_succ]))
                have lZ : y5.heap.size ≤ Z := by have := Ze.out; omega
                have bZ : Below y5.heap.size y5 v7 := below_only nZ.below oZ lZ nZ.below.size
                have rrZ : Row v7 Z 29 (dgC L) := hZb.congr AP.out
                have geZ : w.heap.size ≤ Z := Nat.le_trans bel_6.size lZ
                have neXZ : X ≠ Z := by have := X_6.lt; omega
                have neYZ : Y ≠ Z := by have := Y_6.lt; omega
                clear hZa hZb nZ oZ sZ Ze lZ
                have X_8 : Row v7 X 23 (u8s leaf) := X_6.old bZ
                have Y_8 : Row v7 Y 29 (dgC L) := Y_6.old bZ
                have bel_8 : Below w.heap.size w v7 := below_step bel_6 bel_6.size bZ
                clear X_6 Y_6 bel_6 bZ
                refine go_on ?_
                clear sz
                have X_9 : Row wz X 23 (u8s leaf) := X_8.only oz neXZ
                have Y_9 : Row wz Y 29 (dgC L) := Y_8.only oz neYZ
                have Z_9 : Row wz Z 29 (dgC M) := hz.congr HSET.out
                have bel_9 : Below w.heap.size w wz := below_only bel_8 oz geZ bel_8.size
                clear X_8 Y_8 rrZ bel_8 oz
                clear hz
                go_wp2_with (first
                  | ((with_reducible refine at_slot 56 ?_); (refine arm_load (o := ⟨some 56, _, _, _, _, _⟩) rfl _ _ rfl X 0 rfl (u8s leaf) ((Has.refl _).range X_9) (szH KF.out) ?_); try simp only [Act.put, List.setIfInBounds_toArray, List.set_cons_zero, List.set_cons_succ])
                  | ((with_reducible refine at_slot 57 ?_); (refine arm_load (o := ⟨some 57, _, _, _, _, _⟩) rfl _ _ rfl Y 0 rfl (dgC L) ((Has.refl _).range Y_9) SP.out ?_); try simp only [Act.put, List.setIfInBounds_toArray, List.set_cons_zero, List.set_cons_succ]))
                refine (CL1.out _ (HKW.out _ bel_9)).mono ?_
                rintro e y10 ⟨rfl, hB⟩
                have X_11 : Row y10 X 23 (u8s leaf) := X_9.old hB
                have Y_11 : Row y10 Y 29 (dgC L) := Y_9.old hB
                have Z_11 : Row y10 Z 29 (dgC M) := Z_9.old hB
                have bel_11 : Below w.heap.size w y10 := below_step bel_9 bel_9.size hB
                clear X_9 Y_9 Z_9 bel_9 hB
                go_wp2_with (first
                  | ((with_reducible refine at_slot 14 ?_); (refine arm_alloc (o := ⟨some 14, _, _, _, _, _⟩) rfl _ rfl (u8s zh) zH ?_); intro U v12a Ue hUa nU; try simp only [Act.put, List.setIfInBounds_toArray, List.set_cons_zero, List.set_cons_succ])
                  | ((with_reducible refine arm_store (o := ⟨none, _, _, _, _, _⟩) rfl _ _ _ rfl U 0 rfl (u8s dl) rfl _ _ hUa (fitH KU.out) (u8s_one _) (szH KU.out) ?_); intro v12 hUb oU sU; try simp only [Act.put, List.setIfInBounds_toArray, List.set_cons_zero, List.set_cons_succ])
                  | ((with_reducible refine at_slot 63 ?_); (refine arm_load (o := ⟨some 63, _, _, _, _, _⟩) rfl _ _ rfl X 0 rfl (u8s leaf) ((Has.refl _).range ((X_11.old nU.below).only oU (by have := Ue.out; have := X_11.lt; omega))) (szH KF.out) ?_); try simp only [Act.put, List.setIfInBounds_toArray, List.set_cons_zero, List.set_cons_succ])
                  | ((with_reducible refine at_slot 64 ?_); (refine arm_load (o := ⟨some 64, _, _, _, _, _⟩) rfl _ _ rfl Z 0 rfl (dgC M) ((Has.refl _).range ((Z_11.old nU.below).only oU (by have := Ue.out; have := Z_11.lt; omega))) SM.out ?_); try simp only [Act.put, List.setIfInBounds_toArray, List.set_cons_zero, List.set_cons_succ]))
                have lU : y10.heap.size ≤ U := by have := Ue.out; omega
                have bU : Below y10.heap.size y10 v12 := below_only nU.below oU lU nU.below.size
                have rrU : Row v12 U 23 (u8s dl) := hUb.congr (allH KU.out)
                have geU : w.heap.size ≤ U := Nat.le_trans bel_11.size lU
                clear hUa hUb nU oU sU Ue lU
                have X_13 : Row v12 X 23 (u8s leaf) := X_11.old bU
                have Y_13 : Row v12 Y 29 (dgC L) := Y_11.old bU
                have Z_13 : Row v12 Z 29 (dgC M) := Z_11.old bU
                have bel_13 : Below w.heap.size w v12 := below_step bel_11 bel_11.size bU
                clear X_11 Y_11 Z_11 bel_11 bU
                refine (CL2.out _ (HKW.out _ bel_13)).mono ?_
                rintro e y14 ⟨rfl, hB⟩
                have X_15 : Row y14 X 23 (u8s leaf) := X_13.old hB
                have Y_15 : Row y14 Y 29 (dgC L) := Y_13.old hB
                have Z_15 : Row y14 Z 29 (dgC M) := Z_13.old hB
                have U_15 : Row y14 U 23 (u8s dl) := rrU.old hB
                have bel_15 : Below w.heap.size w y14 := below_step bel_13 bel_13.size hB
                clear X_13 Y_13 Z_13 rrU bel_13 hB
                go_wp2_with (first
                  | ((with_reducible refine at_slot 16 ?_); (refine arm_alloc (o := ⟨some 16, _, _, _, _, _⟩) rfl _ rfl (u8s zh) zH ?_); intro V v16a Ve hVa nV; try simp only [Act.put, List.setIfInBounds_toArray, List.set_cons_zero, List.set_cons_succ])
                  | ((with_reducible refine arm_store (o := ⟨none, _, _, _, _, _⟩) rfl _ _ _ rfl V 0 rfl (u8s dm) rfl _ _ hVa (fitH KV.out) (u8s_one _) (szH KV.out) ?_); intro v16 hVb oV sV; try simp only [Act.put, List.setIfInBounds_toArray, List.set_cons_zero, List.set_cons_succ])
                  | ((with_reducible refine at_slot 70 ?_); (refine arm_want (.bool false) 70 rfl (by kernel_rfl) (cmp_neq _ _ .i64 (by kernel_rfl) _ _ rfl .i64 (0) (0) rfl rfl false (by decide) _) ?_); try simp only [Act.put, List.setIfInBounds_toArray, List.set_cons_zero, List.set_cons_succ])
                  | ((with_reducible refine at_slot 73 ?_); (refine arm_want (.bool false) 73 rfl (by kernel_rfl) (cmp_neq _ _ .i64 (by kernel_rfl) _ _ rfl .i64 (0) (0) rfl rfl false (by decide) _) ?_); try simp only [Act.put, List.setIfInBounds_toArray, List.set_cons_zero, List.set_cons_succ])
                  | ((with_reducible refine at_slot 83 ?_); (refine arm_load (o := ⟨some 83, _, _, _, _, _⟩) rfl _ _ rfl U 0 rfl (u8s dl) ((Has.refl _).range ((U_15.old nV.below).only oV (by have := Ve.out; have := U_15.lt; omega))) (szH KU.out) ?_); try simp only [Act.put, List.setIfInBounds_toArray, List.set_cons_zero, List.set_cons_succ])
                  | ((with_reducible refine at_slot 84 ?_); (refine arm_load (o := ⟨some 84, _, _, _, _, _⟩) rfl _ _ rfl V 0 rfl (u8s dm) ((Has.refl _).range (hVb.congr (allH KV.out))) (szH KV.out) ?_); try simp only [Act.put, List.setIfInBounds_toArray, List.set_cons_zero, List.set_cons_succ])
                  | ((with_reducible refine at_slot 85 ?_); (refine arm_want (.bool true) 85 rfl (by kernel_rfl) (run_op_neqD KU.out KV.out _ _ _ rfl rfl rfl false (iff_of_false Bool.false_ne_true HEQ.out) _) ?_); try simp only [Act.put, List.setIfInBounds_toArray, List.set_cons_zero, List.set_cons_succ]))
                have lV : y14.heap.size ≤ V := by have := Ve.out; omega
                have bV : Below y14.heap.size y14 v16 := below_only nV.below oV lV nV.below.size
                have rrV : Row v16 V 23 (u8s dm) := hVb.congr (allH KV.out)
                have geV : w.heap.size ≤ V := Nat.le_trans bel_15.size lV
                clear hVa hVb nV oV sV Ve lV
                have X_17 : Row v16 X 23 (u8s leaf) := X_15.old bV
                have Y_17 : Row v16 Y 29 (dgC L) := Y_15.old bV
                have Z_17 : Row v16 Z 29 (dgC M) := Z_15.old bV
                have U_17 : Row v16 U 23 (u8s dl) := U_15.old bV
                have bel_17 : Below w.heap.size w v16 := below_step bel_15 bel_15.size bV
                clear X_15 Y_15 Z_15 U_15 bel_15 bV
                go_ret
                exact ⟨rfl, bel_17⟩
            · have KU := Lib.hid zh_ok; have KV := Lib.hid zh_ok
              have HLT : Hid (i * 32 + j < (dgC L).length) := Lib.hid (by rw [dg4 H4.out.ok H4.out.len]; have := HI.out; have := HJ.out; omega)
              have CL1 : Hid (∀ w0, w0.rangeAt 1 0 (u32s ks) → Calls Tryd.prog 8 #[.int .i64 p, .agg (u8s leaf).toArray, .agg (dgC L).toArray] w0 fun e w' => e = .returned (.tuple #[.agg (u8s zh).toArray, .int .i64 1]) ∧ Below w0.heap.size w0 w') := Lib.hid fun w0 h => (lead_any _ L leaf w0 H4.out KF.out h).mono fun e w' h => ⟨by rw [h.ret, leadI_out hin, pathE_out hin]; rfl, h.bel⟩
              have CL2 : Hid (∀ w0, w0.rangeAt 1 0 (u32s ks) → Calls Tryd.prog 8 #[.int .i64 p, .agg (u8s leaf).toArray, .agg (dgC M).toArray] w0 fun e w' => e = .returned (.tuple #[.agg (u8s zh).toArray, .int .i64 1]) ∧ Below w0.heap.size w0 w') := Lib.hid fun w0 h => (lead_any _ M leaf w0 M4.out KF.out h).mono fun e w' h => ⟨by rw [h.ret, leadI_out hin, pathE_out hin]; rfl, h.bel⟩
              clear hin
              go_enter Tryd.func6, Tryd.ntmps6
              go_wp2_with (first
                | ((with_reducible refine at_slot 6 ?_); (refine arm_box (o := ⟨some 6, _, _, _, _, _⟩) rfl _ _ rfl (u8s leaf) rfl ?_); intro X v1 Xe hv1 nv1; try simp only [Act.put, List.setIfInBounds_toArray, List.set_cons_zero, List.set_cons_succ])
                | ((with_reducible refine at_slot 8 ?_); (refine arm_box (o := ⟨some 8, _, _, _, _, _⟩) rfl _ _ rfl (dgC L) rfl ?_); intro Y v2 Ye hv2 nv2; try simp only [Act.put, List.setIfInBounds_toArray, List.set_cons_zero, List.set_cons_succ]))
              have hbv1 := nv1.below
              have rrv1 : Row v1 X 23 (u8s leaf) := hv1
              have hbv2 := nv2.below
              have rrv2 : Row v2 Y 29 (dgC L) := hv2
              have geX : w.heap.size ≤ X := by have := Xe.out; omega
              clear hv1 nv1 Xe
              have bel_3 : Below w.heap.size w v1 := hbv1
              clear hbv1
              have geY : w.heap.size ≤ Y := by have := Ye.out; have := bel_3.size; omega
              have ltXY : X < Y := by have := Ye.out; have := rrv1.lt; omega
              clear hv2 nv2 Ye
              have X_4 : Row v2 X 23 (u8s leaf) := rrv1.old hbv2
              have bel_4 : Below w.heap.size w v2 := below_step bel_3 bel_3.size hbv2
              clear rrv1 bel_3 hbv2
              refine (CA.out _ (HKW.out _ bel_4)).mono ?_
              rintro e y5 ⟨rfl, hB⟩
              have X_6 : Row y5 X 23 (u8s leaf) := X_4.old hB
              have Y_6 : Row y5 Y 29 (dgC L) := rrv2.old hB
              have bel_6 : Below w.heap.size w y5 := below_step bel_4 bel_4.size hB
              clear X_4 rrv2 bel_4 hB
              go_wp2_with (first
                | ((with_reducible refine at_slot 42 ?_); (refine arm_want (.pointer (some ⟨Y, i * 32, none⟩)) 42 rfl (by kernel_rfl) (run_op_arr _ _ _ rfl 4 23 32 (by kernel_rfl) (by kernel_rfl) Y 0 rfl .i64 _ rfl i rfl HI.out (i * 32) (by omega) _) ?_); try simp only [Act.put, List.setIfInBounds_toArray, List.set_cons_zero, List.set_cons_succ])
                | ((with_reducible refine at_slot 43 ?_); (refine arm_want (.pointer (some ⟨Y, i * 32 + j, none⟩)) 43 rfl (by kernel_rfl) (run_op_arr _ _ _ rfl 32 5 1 (by kernel_rfl) (by kernel_rfl) Y (i * 32) rfl .i64 _ rfl j rfl HJ.out (i * 32 + j) (by omega) _) ?_); try simp only [Act.put, List.setIfInBounds_toArray, List.set_cons_zero, List.set_cons_succ])
                | ((with_reducible refine at_slot 44 ?_); (refine arm_want (.int .u8 (x : Int)) 44 rfl (by kernel_rfl) (run_op_load8 _ rfl ⟨Y, i * 32 + j, none⟩ rfl _ (Y_6.cell HCELL.out)) ?_); try simp only [Act.put, List.setIfInBounds_toArray, List.set_cons_zero, List.set_cons_succ])
                | ((with_reducible refine at_slot 46 ?_); (refine arm_want (.bool false) 46 rfl (by kernel_rfl) (cmp_eql _ _ .u8 (by kernel_rfl) _ _ rfl .u8 ((x : Int)) ((c : Int)) rfl rfl false (HXC.out) _) ?_); try simp only [Act.put, List.setIfInBounds_toArray, List.set_cons_zero, List.set_cons_succ])
                | ((with_reducible refine at_slot 48 ?_); (refine arm_load (o := ⟨some 48, _, _, _, _, _⟩) rfl _ _ rfl Y 0 rfl (dgC L) ((Has.refl _).range Y_6) SP.out ?_); try simp only [Act.put, List.setIfInBounds_toArray, List.set_cons_zero, List.set_cons_succ])
                | ((with_reducible refine at_slot 13 ?_); (refine pause ?_); try simp only [Act.put, List.setIfInBounds_toArray, List.set_cons_zero, List.set_cons_succ]))
              refine go_on ?_
              go_wp2_with (first
                | ((with_reducible refine at_slot 13 ?_); (refine arm_alloc (o := ⟨some 13, _, _, _, _, _⟩) rfl _ rfl (dgC z4) z_path ?_); intro Z v7a Ze hZa nZ; try simp only [Act.put, List.setIfInBounds_toArray, List.set_cons_zero, List.set_cons_succ])
                | ((with_reducible refine arm_store (o := ⟨none, _, _, _, _, _⟩) rfl _ _ _ rfl Z 0 rfl (dgC L) rfl _ _ hZa FP.out (dgC_ones _) SP.out ?_); intro v7 hZb oZ sZ; try simp only [Act.put, List.setIfInBounds_toArray, List.set_cons_zero, List.set_cons_succ])
                | ((with_reducible refine arm_storeV (o := ⟨none, _, _, _, _, _⟩) rfl _ _ _ rfl Z (i * 32 + j) rfl (.int .u8 (c : Int)) rfl (one_i _ _) sz_u8 _ _ (hZb.congr AP.out) (HLT.out) ?_); intro wz hz oz sz; refine pause ?_; try simp only [Act.put, List.setIfInBounds_toArray, List.set_cons_zero, List.set_cons_succ]))
              have lZ : y5.heap.size ≤ Z := by have := Ze.out; omega
              have bZ : Below y5.heap.size y5 v7 := below_only nZ.below oZ lZ nZ.below.size
              have rrZ : Row v7 Z 29 (dgC L) := hZb.congr AP.out
              have geZ : w.heap.size ≤ Z := Nat.le_trans bel_6.size lZ
              have neXZ : X ≠ Z := by have := X_6.lt; omega
              have neYZ : Y ≠ Z := by have := Y_6.lt; omega
              clear hZa hZb nZ oZ sZ Ze lZ
              have X_8 : Row v7 X 23 (u8s leaf) := X_6.old bZ
              have Y_8 : Row v7 Y 29 (dgC L) := Y_6.old bZ
              have bel_8 : Below w.heap.size w v7 := below_step bel_6 bel_6.size bZ
              clear X_6 Y_6 bel_6 bZ
              refine go_on ?_
              clear sz
              have X_9 : Row wz X 23 (u8s leaf) := X_8.only oz neXZ
              have Y_9 : Row wz Y 29 (dgC L) := Y_8.only oz neYZ
              have Z_9 : Row wz Z 29 (dgC M) := hz.congr HSET.out
              have bel_9 : Below w.heap.size w wz := below_only bel_8 oz geZ bel_8.size
              clear X_8 Y_8 rrZ bel_8 oz
              clear hz
              go_wp2_with (first
                | ((with_reducible refine at_slot 56 ?_); (refine arm_load (o := ⟨some 56, _, _, _, _, _⟩) rfl _ _ rfl X 0 rfl (u8s leaf) ((Has.refl _).range X_9) (szH KF.out) ?_); try simp only [Act.put, List.setIfInBounds_toArray, List.set_cons_zero, List.set_cons_succ])
                | ((with_reducible refine at_slot 57 ?_); (refine arm_load (o := ⟨some 57, _, _, _, _, _⟩) rfl _ _ rfl Y 0 rfl (dgC L) ((Has.refl _).range Y_9) SP.out ?_); try simp only [Act.put, List.setIfInBounds_toArray, List.set_cons_zero, List.set_cons_succ]))
              refine (CL1.out _ (HKW.out _ bel_9)).mono ?_
              rintro e y10 ⟨rfl, hB⟩
              have X_11 : Row y10 X 23 (u8s leaf) := X_9.old hB
              have Y_11 : Row y10 Y 29 (dgC L) := Y_9.old hB
              have Z_11 : Row y10 Z 29 (dgC M) := Z_9.old hB
              have bel_11 : Below w.heap.size w y10 := below_step bel_9 bel_9.size hB
              clear X_9 Y_9 Z_9 bel_9 hB
              go_wp2_with (first
                | ((with_reducible refine at_slot 14 ?_); (refine arm_alloc (o := ⟨some 14, _, _, _, _, _⟩) rfl _ rfl (u8s zh) zH ?_); intro U v12a Ue hUa nU; try simp only [Act.put, List.setIfInBounds_toArray, List.set_cons_zero, List.set_cons_succ])
                | ((with_reducible refine arm_store (o := ⟨none, _, _, _, _, _⟩) rfl _ _ _ rfl U 0 rfl (u8s zh) rfl _ _ hUa (fitH KU.out) (u8s_one _) (szH KU.out) ?_); intro v12 hUb oU sU; try simp only [Act.put, List.setIfInBounds_toArray, List.set_cons_zero, List.set_cons_succ])
                | ((with_reducible refine at_slot 63 ?_); (refine arm_load (o := ⟨some 63, _, _, _, _, _⟩) rfl _ _ rfl X 0 rfl (u8s leaf) ((Has.refl _).range ((X_11.old nU.below).only oU (by have := Ue.out; have := X_11.lt; omega))) (szH KF.out) ?_); try simp only [Act.put, List.setIfInBounds_toArray, List.set_cons_zero, List.set_cons_succ])
                | ((with_reducible refine at_slot 64 ?_); (refine arm_load (o := ⟨some 64, _, _, _, _, _⟩) rfl _ _ rfl Z 0 rfl (dgC M) ((Has.refl _).range ((Z_11.old nU.below).only oU (by have := Ue.out; have := Z_11.lt; omega))) SM.out ?_); try simp only [Act.put, List.setIfInBounds_toArray, List.set_cons_zero, List.set_cons_succ]))
              have lU : y10.heap.size ≤ U := by have := Ue.out; omega
              have bU : Below y10.heap.size y10 v12 := below_only nU.below oU lU nU.below.size
              have rrU : Row v12 U 23 (u8s zh) := hUb.congr (allH KU.out)
              have geU : w.heap.size ≤ U := Nat.le_trans bel_11.size lU
              clear hUa hUb nU oU sU Ue lU
              have X_13 : Row v12 X 23 (u8s leaf) := X_11.old bU
              have Y_13 : Row v12 Y 29 (dgC L) := Y_11.old bU
              have Z_13 : Row v12 Z 29 (dgC M) := Z_11.old bU
              have bel_13 : Below w.heap.size w v12 := below_step bel_11 bel_11.size bU
              clear X_11 Y_11 Z_11 bel_11 bU
              refine (CL2.out _ (HKW.out _ bel_13)).mono ?_
              rintro e y14 ⟨rfl, hB⟩
              have X_15 : Row y14 X 23 (u8s leaf) := X_13.old hB
              have Y_15 : Row y14 Y 29 (dgC L) := Y_13.old hB
              have Z_15 : Row y14 Z 29 (dgC M) := Z_13.old hB
              have U_15 : Row y14 U 23 (u8s zh) := rrU.old hB
              have bel_15 : Below w.heap.size w y14 := below_step bel_13 bel_13.size hB
              clear X_13 Y_13 Z_13 rrU bel_13 hB
              go_wp2_with (first
                | ((with_reducible refine at_slot 16 ?_); (refine arm_alloc (o := ⟨some 16, _, _, _, _, _⟩) rfl _ rfl (u8s zh) zH ?_); intro V v16a Ve hVa nV; try simp only [Act.put, List.setIfInBounds_toArray, List.set_cons_zero, List.set_cons_succ])
                | ((with_reducible refine arm_store (o := ⟨none, _, _, _, _, _⟩) rfl _ _ _ rfl V 0 rfl (u8s zh) rfl _ _ hVa (fitH KV.out) (u8s_one _) (szH KV.out) ?_); intro v16 hVb oV sV; try simp only [Act.put, List.setIfInBounds_toArray, List.set_cons_zero, List.set_cons_succ])
                | ((with_reducible refine at_slot 70 ?_); (refine arm_want (.bool false) 70 rfl (by kernel_rfl) (cmp_neq _ _ .i64 (by kernel_rfl) _ _ rfl .i64 (1) (1) rfl rfl false (by decide) _) ?_); try simp only [Act.put, List.setIfInBounds_toArray, List.set_cons_zero, List.set_cons_succ])
                | ((with_reducible refine at_slot 73 ?_); (refine arm_want (.bool true) 73 rfl (by kernel_rfl) (cmp_neq _ _ .i64 (by kernel_rfl) _ _ rfl .i64 (1) (0) rfl rfl true (by decide) _) ?_); try simp only [Act.put, List.setIfInBounds_toArray, List.set_cons_zero, List.set_cons_succ])
                | ((with_reducible refine at_slot 77 ?_); (refine arm_want (.bool true) 77 rfl (by kernel_rfl) (cmp_eql _ _ .i64 (by kernel_rfl) _ _ rfl .i64 (1) (1) rfl rfl true (by decide) _) ?_); try simp only [Act.put, List.setIfInBounds_toArray, List.set_cons_zero, List.set_cons_succ])
                | ((with_reducible refine at_slot 79 ?_); (refine arm_want (.agg (u8s zh).toArray) 79 rfl (by kernel_rfl) (run_op_load _ _ rfl U 0 rfl (u8s zh) ((Has.refl _).range ((U_15.old nV.below).only oV (by have := Ve.out; have := U_15.lt; omega))) (szH KU.out)) ?_); try simp only [Act.put, List.setIfInBounds_toArray, List.set_cons_zero, List.set_cons_succ])
                | ((with_reducible refine at_slot 80 ?_); (refine arm_want (.agg (u8s zh).toArray) 80 rfl (by kernel_rfl) (run_op_load _ _ rfl V 0 rfl (u8s zh) ((Has.refl _).range (hVb.congr (allH KV.out))) (szH KV.out)) ?_); try simp only [Act.put, List.setIfInBounds_toArray, List.set_cons_zero, List.set_cons_succ])
                | ((with_reducible refine at_slot 81 ?_); (refine arm_want (.bool true) 81 rfl (by kernel_rfl) (run_op_eqlD KU.out KV.out _ _ _ rfl rfl rfl true (iff_of_true rfl rfl) _) ?_); try simp only [Act.put, List.setIfInBounds_toArray, List.set_cons_zero, List.set_cons_succ]))
              have lV : y14.heap.size ≤ V := by have := Ve.out; omega
              have bV : Below y14.heap.size y14 v16 := below_only nV.below oV lV nV.below.size
              have rrV : Row v16 V 23 (u8s zh) := hVb.congr (allH KV.out)
              have geV : w.heap.size ≤ V := Nat.le_trans bel_15.size lV
              clear hVa hVb nV oV sV Ve lV
              have X_17 : Row v16 X 23 (u8s leaf) := X_15.old bV
              have Y_17 : Row v16 Y 29 (dgC L) := Y_15.old bV
              have Z_17 : Row v16 Z 29 (dgC M) := Z_15.old bV
              have U_17 : Row v16 U 23 (u8s zh) := U_15.old bV
              have bel_17 : Below w.heap.size w v16 := below_step bel_15 bel_15.size bV
              clear X_15 Y_15 Z_15 U_15 bel_15 bV
              go_ret
              exact ⟨rfl, bel_17⟩
end Go.Proofs.YtaihhbiocolhcaaDoor.Pf
