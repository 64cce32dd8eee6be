/-
  The contracts of package account's Right and of the document's: whether a name may be. Over this seat's translation.
-/
import Derived.Test.YteomndfalonncaaDoorAccMem
import Derived.Test.YteomndfalonncaaDoorTagAll
import Derived.Test.YteomndfalonncaaDoorTagOne
import Derived.LoopTactic
namespace Go.Proofs.YteomndfalonncaaDoor.Ac
open Go.ChangeShapes Go.WideShapes Go.ChangeAt Go.RowKit Go.Proofs.YteomndfalonncaaDoor.Mem Go.Proofs.YteomndfalonncaaDoor.Bt Go.Proofs.YteomndfalonncaaDoor.Wi Go.Proofs.YteomndfalonncaaDoor.Sha
open Go.Proofs.YteomndfalonncaaDoor.Tg (bytesOf bytesOf_length bytesOf_lt bytesOf_inj Rd Rd.below Parts parts_one arm_one tagD tagD_len tagOf_any refTag_any)
open Go.Proofs.YteomndfalonncaaDoor.Ep (H32 zh zh_ok Has h_len szH zH fitH allH)
set_option linter.unusedVariables false
set_option linter.unusedSimpArgs false

/-- What holds while a name's letters are gone through. -/
structure ArRel (w : World) (s : ByteArray) (I : Nat) (wr : World) : Prop where
  ex : ∃ pos, pos ≤ s.size ∧ wr.heap[I]? = some (.stringIter s pos) ∧ ∀ j, j < pos → 97 ≤ (bytesOf s).getD j 0 ∧ (bytesOf s).getD j 0 ≤ 122
  bel : Below w.heap.size w wr
set_option maxHeartbeats 4000000 in
set_option maxRecDepth 100000 in
theorem aright_any (a : Acct) (w : World) :
    Calls Tryd.prog 12 #[.agg (acs a).toArray] w fun e w' => e = .returned (.bool (decide (NRt a.nm))) ∧ Below w.heap.size w w' := by
  obtain ⟨v, hv⟩ : ∃ v, v = decide (NRt a.nm) := ⟨_, rfl⟩
  rw [← hv]
  obtain ⟨s, hs⟩ : ∃ s, s = a.nm := ⟨_, rfl⟩
  rw [← hs] at hv
  have c0 : (acs a)[0]? = some (.string s) := by rw [hs]; rfl
  have HV := Lib.hid hv
  have C0 := Lib.hid c0
  clear hv hs c0
  by_cases h0 : s.size < 1
  · have d1 : decide ((s.size : Int) < 1) = true := decide_eq_true (by omega)
    have d1' : decide (s.size < 1) = true := decide_eq_true (by omega)
    have HQ : Hid (v = false) := Lib.hid (by rw [HV.out]; exact decide_eq_false (fun g => by have := g.1; omega))
    clear h0
    go_enter Tryd.func12, Tryd.ntmps12
    go_wp2_with (first
      | ((with_reducible refine at_slot 1 ?_); (refine arm_box (o := ⟨some 1, _, _, _, _, _⟩) rfl _ _ rfl (acs a) rfl ?_); intro X w1 Xe hw1 nw1; have hc := hw1.cell C0.out))
    rw [HQ.out]
    go_ret
    exact ⟨rfl, nw1.below⟩
  by_cases h1 : 8 < s.size
  · have d1 : decide ((s.size : Int) < 1) = false := decide_eq_false (by omega)
    have d1' : decide (s.size < 1) = false := decide_eq_false (by omega)
    have d2 : decide ((8 : Int) < (s.size : Int)) = true := decide_eq_true (by omega)
    have d2' : decide (8 < s.size) = true := decide_eq_true (by omega)
    have HQ : Hid (v = false) := Lib.hid (by rw [HV.out]; exact decide_eq_false (fun g => by have := g.2.1; omega))
    clear h0 h1
    go_enter Tryd.func12, Tryd.ntmps12
    go_wp2_with (first
      | ((with_reducible refine at_slot 1 ?_); (refine arm_box (o := ⟨some 1, _, _, _, _, _⟩) rfl _ _ rfl (acs a) rfl ?_); intro X w1 Xe hw1 nw1; have hc := hw1.cell C0.out))
    rw [HQ.out]
    go_ret
    exact ⟨rfl, nw1.below⟩
  have d1 : decide ((s.size : Int) < 1) = false := decide_eq_false (by omega)
  have d1' : decide (s.size < 1) = false := decide_eq_false (by omega)
  have d2 : decide ((8 : Int) < (s.size : Int)) = false := decide_eq_false (by omega)
  have d2' : decide (8 < s.size) = false := decide_eq_false (by omega)
  have HS : Hid (1 ≤ s.size ∧ s.size ≤ 8) := Lib.hid ⟨by omega, by omega⟩
  clear h0 h1
  go_enter Tryd.func12, Tryd.ntmps12
  go_wp2_with (first
    | ((with_reducible refine at_slot 1 ?_); (refine arm_box (o := ⟨some 1, _, _, _, _, _⟩) rfl _ _ rfl (acs a) rfl ?_); intro X w1 Xe hw1 nw1; have hc := hw1.cell C0.out)
    | ((with_reducible refine at_slot 17 ?_); (refine arm_range (o := ⟨some 17, _, _, _, _, _⟩) rfl _ _ rfl s rfl (by kernel_rfl) ?_); intro I w2 Ie hit nw2))
  have bel : Below w.heap.size w w2 := below_step nw1.below nw1.below.size nw2.below
  have hI : w.heap.size ≤ I := by have := Ie.out; have := nw1.below.size; omega
  have h0 : ArRel w s I w2 := ⟨⟨0, by omega, hit, fun j hj => by omega⟩, bel⟩
  clear hw1 nw1 nw2 Xe Ie hc hit bel d1 d1' d2 d2'
  simp only [Act.put, List.setIfInBounds_toArray, List.set_cons_zero, List.set_cons_succ]
  go_loopw [4] (fun _ wr => ArRel w s I wr) (fun _ wr => s.size - wr.iterPos I)
  case atStart => exact h0
  case round =>
    clear h0
    obtain ⟨⟨pos, hp, hit, hall⟩, bel⟩ := hrel
    have HA := Lib.hid hall
    clear hall
    by_cases hq : pos < s.size
    · obtain ⟨x, hx⟩ : ∃ x, x = (bytesOf s).getD pos 0 := ⟨_, rfl⟩
      by_cases ha : x < 128
      · have hnx : ∀ ty, (Instr.next (.pointer (some ⟨I, 0, none⟩)) true ty).run Tryd.prog wr = .ok (.tuple #[.bool true, .int .i64 pos, .int .i32 (x : Int)]) (wr.iterAt I s (pos + 1)) := fun ty => by
          have h := Lib.run_next_ascii_at (P := Tryd.prog) wr I s pos ty hit hq (by rw [← byte_getD s pos hq, ← hx]; exact ha)
          rw [← byte_getD s pos hq, ← hx] at h
          exact h
        have hit2 := Lib.iterAt_heap wr I s pos (pos + 1) hit
        have bel2 := Lib.below_iterAt bel hI s (pos + 1)
        generalize wr.iterAt I s (pos + 1) = wn at hnx hit2 bel2
        have hm : s.size - wr.iterPos I = s.size - pos := by rw [show wr.iterPos I = pos by unfold World.iterPos; rw [hit]]
        have hm2 : s.size - wn.iterPos I = s.size - (pos + 1) := by rw [show wn.iterPos I = pos + 1 by unfold World.iterPos; rw [hit2]]
        have HM : Hid (s.size - wn.iterPos I < s.size - wr.iterPos I) := Lib.hid (by omega)
        have HIT := Lib.hid hit2
        have HX := Lib.hid hx; have HQQ := Lib.hid hq
        clear hm hm2 hit hit2 hx bel
        by_cases hb : x < 97
        · have e1 : decide ((x : Int) < 97) = true := decide_eq_true (by omega)
          have e1' : decide (x < 97) = true := decide_eq_true hb
          have HQ : Hid (v = false) := Lib.hid (by rw [HV.out]; exact decide_eq_false (fun g => by have := lets_at g.2.2 HQQ.out; rw [← HX.out] at this; omega))
          clear hb
          go_wp2_with fail
          rw [HQ.out]
          go_ret
          exact ⟨rfl, bel2⟩
        · have e1 : decide ((x : Int) < 97) = false := decide_eq_false (by omega)
          have e1' : decide (x < 97) = false := decide_eq_false hb
          by_cases hb2 : 122 < x
          · have e2 : decide ((122 : Int) < (x : Int)) = true := decide_eq_true (by omega)
            have e2' : decide (122 < x) = true := decide_eq_true hb2
            have HQ : Hid (v = false) := Lib.hid (by rw [HV.out]; exact decide_eq_false (fun g => by have := lets_at g.2.2 HQQ.out; rw [← HX.out] at this; omega))
            clear hb hb2
            go_wp2_with fail
            rw [HQ.out]
            go_ret
            exact ⟨rfl, bel2⟩
          · have e2 : decide ((122 : Int) < (x : Int)) = false := decide_eq_false (by omega)
            have e2' : decide (122 < x) = false := decide_eq_false hb2
            have HN : Hid (∀ j, j < pos + 1 → 97 ≤ (bytesOf s).getD j 0 ∧ (bytesOf s).getD j 0 ≤ 122) := Lib.hid fun j hj => by
              rcases Nat.lt_or_ge j pos with h | h
              · exact HA.out j h
              · obtain rfl : j = pos := by omega
                rw [← HX.out]; omega
            clear hb hb2
            go_wp2_with fail
            go_roundw
            case rel => exact ⟨⟨pos + 1, HQQ.out, HIT.out, HN.out⟩, bel2⟩
            case measure => exact HM.out
      · have hfar := high_far (s := s) hq (by rw [← hx]; omega)
        have hnx : ∀ ty, (Instr.next (.pointer (some ⟨I, 0, none⟩)) true ty).run Tryd.prog wr = _ := fun ty => Lib.run_next_any_at (P := Tryd.prog) wr I s pos ty hit hq
        obtain ⟨c, hc⟩ : ∃ c, c = (Utf8.decode s pos).1 := ⟨_, rfl⟩
        rw [← hc] at hfar hnx
        have bel2 := Lib.below_iterAt bel hI s (pos + (Utf8.decode s pos).2)
        generalize wr.iterAt I s (pos + (Utf8.decode s pos).2) = wn at hnx bel2
        have HQ : Hid (v = false) := Lib.hid (by rw [HV.out]; exact decide_eq_false (fun g => by have := lets_at g.2.2 hq; rw [← hx] at this; omega))
        have e1 : decide ((c : Int) < 97) = false := decide_eq_false (by omega)
        have e1' : decide (c < 97) = false := decide_eq_false (by omega)
        have e2 : decide ((122 : Int) < (c : Int)) = true := decide_eq_true (by omega)
        have e2' : decide (122 < c) = true := decide_eq_true (by omega)
        clear hc hx hit bel hfar ha
        go_wp2_with fail
        rw [HQ.out]
        go_ret
        exact ⟨rfl, bel2⟩
    · have hnx : ∀ ty, (Instr.next (.pointer (some ⟨I, 0, none⟩)) true ty).run Tryd.prog wr = _ := fun ty => Lib.run_next_end_at (P := Tryd.prog) wr I s pos ty hit hq
      have HQ : Hid (v = true) := Lib.hid (by rw [HV.out]; exact decide_eq_true ⟨HS.out.1, HS.out.2, lets_all (fun j hj => HA.out j (by omega))⟩)
      clear hit
      go_wp2_with fail
      rw [HQ.out]
      go_ret
      exact ⟨rfl, bel⟩
/-- What holds in the document's loop over a name's bytes. -/
structure RrRel (w : World) (X : Nat) (a : Acct) (i : Value) (wr : World) : Prop where
  ex : ∃ k : Nat, k ≤ a.nm.size ∧ i = .int .i64 (k : Int) ∧ ∀ j, j < k → 97 ≤ (bytesOf a.nm).getD j 0 ∧ (bytesOf a.nm).getD j 0 ≤ 122
  same : w = wr
set_option maxHeartbeats 4000000 in
set_option maxRecDepth 100000 in
theorem rright_any (a : Acct) (w : World) :
    Calls Tryd.prog 13 #[.agg (acs a).toArray] w fun e w' => e = .returned (.bool (decide (NRt a.nm))) ∧ Below w.heap.size w w' := by
  obtain ⟨v, hv⟩ : ∃ v, v = decide (NRt a.nm) := ⟨_, rfl⟩
  rw [← hv]
  obtain ⟨s, hs⟩ : ∃ s, s = a.nm := ⟨_, rfl⟩
  rw [← hs] at hv
  have c0 : (acs a)[0]? = some (.string s) := by rw [hs]; rfl
  have HV := Lib.hid hv
  have C0 := Lib.hid c0
  have HE := Lib.hid hs
  clear hv hs c0
  by_cases h0 : s.size < 1
  · have d1 : decide ((s.size : Int) < 1) = true := decide_eq_true (by omega)
    have d1' : decide (s.size < 1) = true := decide_eq_true (by omega)
    have HQ : Hid (v = false) := Lib.hid (by rw [HV.out]; exact decide_eq_false (fun g => by have := g.1; omega))
    clear h0
    go_enter Tryd.func13, Tryd.ntmps13
    go_wp2_with (first
      | ((with_reducible refine at_slot 1 ?_); (refine arm_box (o := ⟨some 1, _, _, _, _, _⟩) rfl _ _ rfl (acs a) rfl ?_); intro X w1 Xe hw1 nw1; have hc := hw1.cell C0.out))
    rw [HQ.out]
    go_ret
    exact ⟨rfl, nw1.below⟩
  by_cases h1 : 8 < s.size
  · have d1 : decide ((s.size : Int) < 1) = false := decide_eq_false (by omega)
    have d1' : decide (s.size < 1) = false := decide_eq_false (by omega)
    have d2 : decide ((8 : Int) < (s.size : Int)) = true := decide_eq_true (by omega)
    have d2' : decide (8 < s.size) = true := decide_eq_true (by omega)
    have HQ : Hid (v = false) := Lib.hid (by rw [HV.out]; exact decide_eq_false (fun g => by have := g.2.1; omega))
    clear h0 h1
    go_enter Tryd.func13, Tryd.ntmps13
    go_wp2_with (first
      | ((with_reducible refine at_slot 1 ?_); (refine arm_box (o := ⟨some 1, _, _, _, _, _⟩) rfl _ _ rfl (acs a) rfl ?_); intro X w1 Xe hw1 nw1; have hc := hw1.cell C0.out))
    rw [HQ.out]
    go_ret
    exact ⟨rfl, nw1.below⟩
  have d1 : decide ((s.size : Int) < 1) = false := decide_eq_false (by omega)
  have d1' : decide (s.size < 1) = false := decide_eq_false (by omega)
  have d2 : decide ((8 : Int) < (s.size : Int)) = false := decide_eq_false (by omega)
  have d2' : decide (8 < s.size) = false := decide_eq_false (by omega)
  have HS : Hid (1 ≤ s.size ∧ s.size ≤ 8) := Lib.hid ⟨by omega, by omega⟩
  have hM : s.size ≤ 8 := by omega
  clear h0 h1
  go_enter Tryd.func13, Tryd.ntmps13
  go_wp2_with (first
    | ((with_reducible refine at_slot 1 ?_); (refine arm_box (o := ⟨some 1, _, _, _, _, _⟩) rfl _ _ rfl (acs a) rfl ?_); intro X w1 Xe hw1 nw1; have hc := hw1.cell C0.out))
  have bel := nw1.below
  have h0 : RrRel w1 X a (.int .i64 0) w1 := ⟨⟨0, by omega, rfl, fun j hj => by omega⟩, rfl⟩
  clear nw1 Xe hw1 d1 d1' d2 d2'
  go_loopw [3] (fun i wr => RrRel w1 X a i wr) (fun i _ => s.size - (intOf i).toNat)
  case atStart => exact h0
  case round =>
    clear h0
    obtain ⟨⟨k, hk, rfl, hall⟩, rfl⟩ := hrel
    rw [← HE.out] at hk hall
    have HA := Lib.hid hall
    clear hall
    by_cases hq : k < s.size
    · obtain ⟨x, hx⟩ : ∃ x, x = (bytesOf s).getD k 0 := ⟨_, rfl⟩
      have HX := Lib.hid hx
      have ik : (k : Int) < (s.size : Int) := by omega
      have HQQ := Lib.hid hq
      clear hx
      by_cases hb : x < 97
      · have e1 : decide ((x : Int) < 97) = true := decide_eq_true (by omega)
        have e1' : decide (x < 97) = true := decide_eq_true hb
        have HQ : Hid (v = false) := Lib.hid (by rw [HV.out]; exact decide_eq_false (fun g => by have := lets_at g.2.2 HQQ.out; rw [← HX.out] at this; omega))
        clear hb
        go_wp2_with (first
          | ((with_reducible refine at_slot 24 ?_); (refine arm_indexS (o := ⟨some 24, _, _, _, _, _⟩) rfl _ _ _ rfl (by kernel_rfl) s rfl .i64 k rfl HQQ.out x HX.out.symm ?_)))
        rw [HQ.out]
        go_ret
        exact ⟨rfl, bel⟩
      · have e1 : decide ((x : Int) < 97) = false := decide_eq_false (by omega)
        have e1' : decide (x < 97) = false := decide_eq_false hb
        by_cases hb2 : 122 < x
        · have e2 : decide ((122 : Int) < (x : Int)) = true := decide_eq_true (by omega)
          have e2' : decide (122 < x) = true := decide_eq_true hb2
          have HQ : Hid (v = false) := Lib.hid (by rw [HV.out]; exact decide_eq_false (fun g => by have := lets_at g.2.2 HQQ.out; rw [← HX.out] at this; omega))
          clear hb hb2
          go_wp2_with (first
            | ((with_reducible refine at_slot 24 ?_); (refine arm_indexS (o := ⟨some 24, _, _, _, _, _⟩) rfl _ _ _ rfl (by kernel_rfl) s rfl .i64 k rfl HQQ.out x HX.out.symm ?_))
            | ((with_reducible refine at_slot 30 ?_); (refine arm_want (.int .u8 (x : Int)) 30 rfl (by kernel_rfl) (run_op_indexS _ _ _ rfl (by kernel_rfl) s rfl .i64 k rfl HQQ.out x HX.out.symm _) ?_)))
          rw [HQ.out]
          go_ret
          exact ⟨rfl, bel⟩
        · have e2 : decide ((122 : Int) < (x : Int)) = false := decide_eq_false (by omega)
          have e2' : decide (122 < x) = false := decide_eq_false hb2
          have HN : Hid (∀ j, j < k + 1 → 97 ≤ (bytesOf s).getD j 0 ∧ (bytesOf s).getD j 0 ≤ 122) := Lib.hid fun j hj => by
            rcases Nat.lt_or_ge j k with h | h
            · exact HA.out j h
            · obtain rfl : j = k := by omega
              rw [← HX.out]; omega
          clear hb hb2
          have hk8 : k < 8 := by omega
          go_wp2_with (first
            | ((with_reducible refine at_slot 24 ?_); (refine arm_indexS (o := ⟨some 24, _, _, _, _, _⟩) rfl _ _ _ rfl (by kernel_rfl) s rfl .i64 k rfl HQQ.out x HX.out.symm ?_))
            | ((with_reducible refine at_slot 30 ?_); (refine arm_want (.int .u8 (x : Int)) 30 rfl (by kernel_rfl) (run_op_indexS _ _ _ rfl (by kernel_rfl) s rfl .i64 k rfl HQQ.out x HX.out.symm _) ?_)))
          go_roundw
          case rel => exact ⟨⟨k + 1, by rw [← HE.out]; exact HQQ.out, by go_num, by rw [← HE.out]; exact HN.out⟩, rfl⟩
          case measure => simp [intOf]; omega
    · obtain rfl : k = s.size := by omega
      have HQ : Hid (v = true) := Lib.hid (by rw [HV.out]; exact decide_eq_true ⟨HS.out.1, HS.out.2, lets_all (fun j hj => HA.out j hj)⟩)
      go_wp2_with fail
      rw [HQ.out]
      go_ret
      exact ⟨rfl, bel⟩
end Go.Proofs.YteomndfalonncaaDoor.Ac
