/-
  The contract of package state's Bytes, over this seat's translation: all digests of a state are gone through, and written one behind the other.
-/
import Derived.Test.YtnjmocobncncdaaDoorStaRounds
import Derived.Test.YtnjmocobncncdaaDoorWireAll
import Derived.Test.YtnjmocobncncdaaDoorWireRefAll
namespace Go.Proofs.YtnjmocobncncdaaDoor.Sa
open Go.ChangeShapes Go.WideShapes Go.ChangeAt Go.RowKit Go.Proofs.YtnjmocobncncdaaDoor.Mem Go.Proofs.YtnjmocobncncdaaDoor.Bt Go.Proofs.YtnjmocobncncdaaDoor.Rf Go.Proofs.YtnjmocobncncdaaDoor.Wi
open Go.Proofs.YtnjmocobncncdaaDoor.Ep (H32 Dat zh zh_ok num32 dcs dcs_len dcs_one zd zd_ok Has h_len one_app one_num szH)
set_option linter.unusedVariables false
set_option linter.unusedSimpArgs false
attribute [local go_sem] Oper.semAt_some

theorem own_alike {w w' : World} {base : Nat} {p : Option Addr} {cap : Nat} {bs : List Nat} (h : Bt.Own w base p cap bs) (ha : Rf.Alike w w') : Bt.Own w' base p cap bs := by
  refine ⟨h.own.1, ?_⟩
  rcases h.own.2 with h2 | ⟨g, cap', cur, hv, hg, hh, r⟩
  · exact .inl h2
  · exact .inr ⟨g, cap', cur, hv, hg, ha.same _ _ hh rfl, r⟩
theorem wr_alike {w w' : World} {base W : Nat} {p : Option Addr} {cap : Nat} {bs : List Nat} (h : Wr w base W p cap bs) (ha : Rf.Alike w w') : Wr w' base W p cap bs := ⟨ha.row h.row, own_alike h.own ha, h.low⟩
theorem keeps_step {w w' : World} {base W : Nat} {p p' : Option Addr} {cap : Nat} {bs : List Nat} (h : Wr w base W p cap bs) (hs : Step (some W) p p' w w') : KeepsOthers w w' :=
  ⟨hs.size, fun k o hk ho => (hs.block k (Array.getElem?_eq_some_iff.1 hk).1 (fun e => by
    have : W = k := Option.some.inj e
    subst this
    have := Option.some.inj ((show w.heap[W]? = _ from h.row).symm.trans hk)
    subst this
    cases ho) (fun e => by
    obtain ⟨_, _, cur, hc⟩ := own_blk h.own e
    have := Option.some.inj (hc.symm.trans hk)
    subst this
    cases ho)).trans hk⟩
theorem pt_step {w w' : World} {base W : Nat} {p p' q : Option Addr} {cap : Nat} {bs : List Nat} {vs : List Value} (hq : Pt w q vs) (h : Wr w base W p cap bs) (hs : Step (some W) p p' w w') : Pt w' q vs := ⟨fun hne => by
  obtain ⟨g, cur, e, hh, ht⟩ := hq.at_ hne
  refine ⟨g, cur, e, (hs.block g (Array.getElem?_eq_some_iff.1 hh).1 (fun e => ?_) (fun e => ?_)).trans hh, ht⟩
  · have : W = g := Option.some.inj e
    subst this
    have := Option.some.inj ((show w.heap[W]? = _ from h.row).symm.trans hh)
    have := (Obj.cells.inj this).2.1
    revert this
    decide
  · obtain ⟨_, _, cur2, hc⟩ := own_blk h.own e
    have := Option.some.inj (hc.symm.trans hh)
    have := (Obj.cells.inj this).2.1
    revert this
    decide⟩
theorem sta_step {w w' : World} {base W S : Nat} {p p' : Option Addr} {cap : Nat} {bs : List Nat} {cs : List Value} (hr : Row w S 41 cs) (h : Wr w base W p cap bs) (hs : Step (some W) p p' w w') : Row w' S 41 cs :=
  row_step hr h hs (fun e => by
    subst e
    have := Option.some.inj ((show w.heap[S]? = _ from h.row).symm.trans hr)
    have := (Obj.cells.inj this).2.1
    revert this
    decide)
/-- What holds while it is written. -/
structure BtRel (w : World) (S W : Nat) (s : Sta) (i : Nat) (wr : World) : Prop where
  row : Row wr S 41 (scs s)
  ex : ∃ p cap, Wr wr w.heap.size W p cap (bP s i)
theorem BtRel.alike {w wr wr' : World} {S W i : Nat} {s : Sta} (h : BtRel w S W s i wr) (ha : Rf.Alike wr wr') : BtRel w S W s i wr' := by
  obtain ⟨p, cap, hw⟩ := h.ex
  exact ⟨ha.row h.row, p, cap, wr_alike hw ha⟩
/-- What holds while a round's numbers are written. -/
structure BlRel (w : World) (S W : Nat) (s : Sta) (k : Nat) (q : Option Addr) (w1 : World) (i : Value) (wr : World) : Prop where
  ex : ∃ j : Nat, j ≤ gn k ∧ i = .int .i64 j ∧ BtRel w S W s (gf k + 1 + j) wr
  pt : Pt wr q (ptrs S (off (gf k) + 32) (gn k))
  keeps : KeepsOthers w1 wr
  bel : Below w.heap.size w1 wr
theorem gn_le (k : Nat) : gn k ≤ 9 := by unfold gn; split <;> decide
set_option maxHeartbeats 1000000 in
set_option maxRecDepth 100000 in
theorem bytes_any (s : Sta) (w : World) (ok : s.Ok) : Calls Tryd.prog 21 #[.agg (scs s).toArray] w (ClonePost w (staB s)) := by
  have OK := Lib.hid ok
  have hB22 : (staB s).length = 396 := staB_len ok
  clear ok
  generalize hbs : staB s = bs at hB22 ⊢
  have HL : Hid (bs.length ≤ 1000000) := Lib.hid (by rw [hB22]; decide)
  have HBS := Lib.hid hbs
  clear hbs hB22
  refine (callsIn_wide (n := 0)).1 (callsIn_of_wp_marks Tryd.func21 rfl trivial ?_ rfl)
  refine wpIn_wide.2 ?_
  simp only [Tryd.ntmps21, List.size_toArray, List.length_cons, List.length_nil, Nat.reduceAdd, Nat.reduceSub, Array.replicate_succ, Array.replicate_zero, List.push_toArray, List.append_toArray, List.nil_append, List.cons_append]
  go_wp2_with (first
    | ((with_reducible refine at_slot 1 ?_); (refine arm_box (o := ⟨some 1, _, _, _, _, _⟩) rfl _ _ rfl (scs s) rfl ?_); intro S w1 Se hw1 nw1)
    | ((with_reducible refine at_slot 3 ?_); (refine arm_alloc (o := ⟨some 3, _, _, _, _, _⟩) rfl _ rfl [.slice none 0 0] zero_wr ?_); intro W w2 We hw2 nw2))
  have e1 := Se.out; have e2 := We.out; have z1 := nw1.size; have z2 := nw2.size
  have bel2 : Below w.heap.size w w2 := below_step nw1.below (by omega) nw2.below
  have h0 : BtRel w S W s 0 w2 := ⟨hw1.old nw2.below, none, 0, wr_new hw2 (by omega)⟩
  clear hw1 hw2 nw1 nw2 Se We
  refine wpIn_wide.1 (wp_range2 (gf := 32) (ub := #[.pointer (some ⟨S, 0, none⟩)]) rfl (enters_of Tryd.func32 (by kernel_rfl) rfl) w.heap.size bel2.size 11
    (fun k wr => BtRel w S W s (gf k) wr) (fun k A B h ha => h.alike ha) (Handed S) (fun k x y A B h ha => h.alike ha) h0 (digests_any S w2)
    (fun x y => { tmps := #[.agg (scs s).toArray, .pointer (some ⟨S, 0, none⟩), .slice none 0 0, .pointer (some ⟨W, 0, none⟩), x, y, undef, undef, .func (.func 32) #[.pointer (some ⟨S, 0, none⟩)] #[], x, y, undef, undef, undef, undef, undef, undef, undef, undef, undef, undef, undef, undef, undef, undef, undef, undef], defers := [] })
    ?assign ?body ?done)
  case assign =>
    intro l x y W' K hK
    clear e1 e2 z1 z2 h0 bel2
    gi_wp2
    exact hK
  case body =>
    intro l k x y wo hk hJ hE hbw
    obtain ⟨rfl, q, qc, rfl, hP⟩ := hE.ex
    obtain ⟨hrow, p, cap, hWr⟩ := hJ
    have HG := Lib.hid (g_hash hk)
    have hws : w.heap.size ≤ wo.heap.size := Nat.le_trans bel2.size hbw.size
    have hlb := bP_le OK.out (gf k)
    have hg22 := HG.out.2
    clear h0 hE hbw bel2 e1 e2 z1 z2
    have HP := Lib.hid hP; have HR := Lib.hid hrow; have HW := Lib.hid hWr; have HKK := Lib.hid hk
    clear hP hrow hWr
    gi_wp2_with (first
      | ((with_reducible refine in_slot 13 ?_); (refine in_value (o := ⟨some 13, _, _, _, _, _⟩) (.agg (u8s (hF s (gf k))).toArray) 13 rfl rfl (fun c h => by cases h) (fun c h => by cases h) (run_op_load _ _ rfl S (off (gf k)) rfl _ ((s_hash OK.out HG.out.2 HG.out.1).range HR.out) (szH (hF_ok OK.out _))) ?_))
      | ((with_reducible refine in_slot 14 ?_); (refine in_call (o := ⟨some 14, _, _, _, _, _⟩) 14 rfl rfl (fun c h => by cases h) (run_op_call 33 _ _ rfl #[.pointer (some ⟨W, 0, none⟩), .agg (u8s (hF s (gf k))).toArray] (by simp only [List.map_toArray, List.map_cons, List.map_nil]; rfl) Tryd.func33 (by kernel_rfl) (by kernel_rfl) _) (wHash_any (hF s (gf k)) w.heap.size W p cap (bP s (gf k)) wo HW.out hws (by omega) (hF_ok OK.out _).len) ?_); rintro e wa ⟨rfl, p1, cap1, hW1, hS1⟩; refine ⟨_, rfl, ?_⟩))
    have hk1 : KeepsOthers wo wa := keeps_step HW.out hS1
    have hb1 : Below w.heap.size wo wa := HW.out.below hS1 hws
    have hj1 : BtRel w S W s (gf k + 1 + 0) wa := ⟨sta_step HR.out HW.out hS1, p1, cap1, by rw [show gf k + 1 + 0 = gf k + 1 from rfl, bP, fB_h HG.out.1]; exact hW1⟩
    have hl0 : BlRel w S W s k q wo (.int .i64 0) wa := ⟨⟨0, by omega, rfl, hj1⟩, pt_step HP.out HW.out hS1, hk1, hb1⟩
    have hsa : w.heap.size ≤ wa.heap.size := Nat.le_trans hws hb1.size
    clear hj1 hk1 hb1 hW1 hS1 HP HR HW hlb
    obtain ⟨m, hm⟩ : ∃ m, m = gn k := ⟨_, rfl⟩
    obtain ⟨f, hf⟩ : ∃ f, f = gf k := ⟨_, rfl⟩
    obtain ⟨hh, hhe⟩ : ∃ hh, hh = hF s f := ⟨_, rfl⟩
    obtain ⟨X0, hX0⟩ : ∃ X0, X0 = off f := ⟨_, rfl⟩
    rw [← hm, ← hf, ← hhe, ← hX0]
    have HM := Lib.hid hm; have HF := Lib.hid hf
    have hm9 : m ≤ 9 := by rw [hm]; exact gn_le k
    clear hm hhe hX0 hg22 hf
    gi_loopw [17] (fun i wr' => BlRel w S W s k q wo i wr') (fun i _ => m - (intOf i).toNat)
    case atStart => exact hl0
    case round =>
      clear hl0 hsa
      obtain ⟨⟨j, hj, rfl, ⟨hrow, p2, cap2, hWr2⟩⟩, hpt, hkeep, hbel⟩ := hrel
      rw [← HM.out] at hj
      by_cases hlt : j < m
      · have ik : (j : Int) < (m : Int) := by omega
        have hj' : j ≤ gn k := by rw [← HM.out]; exact hj
        obtain ⟨g, rfl, hgc⟩ := hpt.cell (j := j) (by rw [ptrs_len, ← HM.out]; exact hlt)
        rw [ptrs_get S _ (by rw [← HM.out]; exact hlt), ← off_num HKK.out j hj'] at hgc
        have HN := Lib.hid (g_num HKK.out (j := j) (by rw [← HM.out]; exact hlt))
        have hx : wr.cell? ⟨S, off (gf k + 1 + j), none⟩ = some (num32 (nF s (gf k + 1 + j))) := hrow.cell (s_num OK.out HN.out.2 HN.out.1).get
        have hsx : w.heap.size ≤ wr.heap.size := Nat.le_trans hws hbel.size
        have hlb2 := bP_le OK.out (gf k + 1 + j)
        have h22 := HN.out.2
        have hfit : (bP s (gf k + 1 + j)).length ≤ 900000 := by omega
        have hnl := nF_lt OK.out (gf k + 1 + j)
        have hnext : bP s (gf k + 1 + (j + 1)) = bP s (gf k + 1 + j) ++ put (nF s (gf k + 1 + j)) 4 := by rw [show gf k + 1 + (j + 1) = gf k + 1 + j + 1 from rfl, bP, fB_n HN.out.1]
        have HPT := Lib.hid hpt; have HKP := Lib.hid hkeep; have HRW := Lib.hid hrow; have HBL := Lib.hid hbel; have HNX := Lib.hid hnext
        clear hlb2 h22 hpt hkeep hrow hnext HN HG OK hj' hbel
        generalize bP s (gf k + 1 + j) = bj at hWr2 hfit HNX
        generalize nF s (gf k + 1 + j) = v at hx hnl HNX
        generalize off (gf k + 1 + j) = X at hx hgc
        have HX := Lib.hid hx; have HC := Lib.hid hgc; have HW2 := Lib.hid hWr2
        clear hx hgc hWr2
        gi_wp2_with (first
          | ((with_reducible refine in_slot 19 ?_); (refine in_value (o := ⟨some 19, _, _, _, _, _⟩) (.pointer (some ⟨g, 0 + j, none⟩)) 19 rfl rfl (fun c h => by cases h) (fun c h => by cases h) (run_op_indexS _ _ _ rfl 90 (by kernel_rfl) (by kernel_rfl) g 0 m qc rfl .i64 j rfl hlt) ?_))
          | ((with_reducible refine in_slot 20 ?_); (refine in_value (o := ⟨some 20, _, _, _, _, _⟩) (.pointer (some ⟨S, X, none⟩)) 20 rfl rfl (fun c h => by cases h) (fun c h => by cases h) (run_op_load1 _ _ rfl _ Tryd.underlying90 rfl ⟨g, 0 + j, none⟩ rfl _ HC.out) ?_))
          | ((with_reducible refine in_slot 23 ?_); (refine in_value (o := ⟨some 23, _, _, _, _, _⟩) (num32 v) 23 rfl rfl (fun c h => by cases h) (fun c h => by cases h) (run_op_load1 _ _ rfl _ Tryd.underlying30 rfl ⟨S, X, none⟩ rfl _ HX.out) ?_))
          | ((with_reducible refine in_slot 24 ?_); (refine in_call (o := ⟨some 24, _, _, _, _, _⟩) 24 rfl rfl (fun c h => by cases h) (run_op_call 34 _ _ rfl #[.pointer (some ⟨W, 0, none⟩), num32 v] (by simp only [List.map_toArray, List.map_cons, List.map_nil]; rfl) Tryd.func34 (by kernel_rfl) (by kernel_rfl) _) (wNum_any v w.heap.size W p2 cap2 bj wr HW2.out hsx hfit hnl) ?_); rintro e wy ⟨rfl, p3, cap3, hW3, hS3⟩; refine ⟨_, rfl, ?_⟩))
        go_roundw
        case rel =>
          exact ⟨⟨j + 1, by rw [← HM.out]; omega, by go_num, sta_step HRW.out HW2.out hS3, p3, cap3, by rw [HNX.out]; exact hW3⟩, pt_step HPT.out HW2.out hS3, HKP.out.trans (keeps_step HW2.out hS3), HBL.out.trans (HW2.out.below hS3 hsx)⟩
        case measure => simp [intOf]; omega
      · obtain rfl : j = m := by omega
        have HE := Lib.hid (show gf (k + 1) = gf k + 1 + j by rw [g_next HKK.out, HM.out])
        gi_wp2
        exact ⟨hkeep, hbel, by rw [HE.out]; exact ⟨hrow, p2, cap2, hWr2⟩⟩
  case done =>
    intro D wr hD hJ hbw hK
    obtain ⟨hrow, p, cap, hWr⟩ := hJ
    have HW : Hid (Wr wr w.heap.size W p cap bs) := Lib.hid (HBS.out ▸ hWr)
    clear e1 e2 z1 z2 h0 hrow hWr
    go_wp2_with fail
    refine (wBytes_any w.heap.size W p cap bs wr HW.out HL.out).mono ?_
    rintro e wz ⟨⟨q, c, rfl, hO⟩, hBz⟩
    go_wp2_with fail
    have hK' : wz.heap[D]? = some (.deferred (some [])) := (hBz.block D (Array.getElem?_eq_some_iff.1 hK).1).trans hK
    refine ⟨by simp, .inl ⟨_, _, rfl, run_takeDeferred hK', ?_⟩⟩
    have hws := hbw.size
    have hw2 := bel2.size
    have hfin : Below w.heap.size w (wz.putObj D (.deferred none)) := (((bel2.trans hbw).trans (hBz.mono (by omega))).trans (below_put hK' (by omega)))
    exact ⟨_, results_tmp rfl _ _ _, ⟨q, c, rfl, own_mono (own_alike hO (Alike.putObj _ hK' rfl)) (by omega)⟩, hfin⟩
end Go.Proofs.YtnjmocobncncdaaDoor.Sa
