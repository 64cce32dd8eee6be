/-
  The contracts of order.Greatest and of the document's. Over this seat's translation.
-/
import Derived.Test.YtffdmfclakgocaaDoorOrdRef
namespace Go.Proofs.YtffdmfclakgocaaDoor.Od
open Go.ChangeShapes Go.WideShapes Go.ChangeAt Go.RowKit Go.Proofs.YtffdmfclakgocaaDoor.Mem Go.Proofs.YtffdmfclakgocaaDoor.Bt Go.Proofs.YtffdmfclakgocaaDoor.Sl
open Go.Proofs.YtffdmfclakgocaaDoor.Ep (H32 zh zh_ok num32 Has h_len one_app one_num szH zH fitH allH)
open Go.Proofs.YtffdmfclakgocaaDoor.Sha (ks)
open Go.Proofs.YtffdmfclakgocaaDoor.Sa (Sta scs digS digS_ok sz_sta sz_rsta h_drw h_lngth)
set_option linter.unusedVariables false
set_option linter.unusedSimpArgs false

open Classical in
/-- The place of the first key that none is greater than; -1, if there is no key. -/
noncomputable def topF (l : List Ky) : Int := if h : ∃ j, Top l l.length j then ((Classical.choose h : Nat) : Int) else -1
theorem topF_nil : topF [] = -1 := dif_neg (fun ⟨j, h⟩ => by have := h.lt; simp at this)
theorem topF_of {l : List Ky} {j : Nat} (h : Top l l.length j) : topF l = (j : Int) := by
  unfold topF
  rw [dif_pos ⟨j, h⟩, Top.only (Classical.choose_spec (⟨j, h⟩ : ∃ j, Top l l.length j)) h (Nat.le_refl _)]
theorem topF_none {l : List Ky} (h : l.length = 0) : topF l = -1 := by rw [List.eq_nil_of_length_eq_zero h]; exact topF_nil
theorem topF_has {l : List Ky} (h : l.length ≠ 0) : ∃ j : Nat, topF l = (j : Int) ∧ Top l l.length j := by
  obtain ⟨n, hn⟩ : ∃ n, l.length = n + 1 := ⟨l.length - 1, by omega⟩
  obtain ⟨j, hj⟩ := Top.exists l n (by omega)
  rw [← hn] at hj
  exact ⟨j, topF_of hj, hj⟩
structure GtRel (w : World) (l : List Ky) (i g : Value) (wr : World) : Prop where
  ex : ∃ k : Nat, k ≤ l.length ∧ i = .int .i64 (k : Int) ∧ ((k = 0 ∧ g = .int .i64 (-1)) ∨ ∃ j : Nat, g = .int .i64 (j : Int) ∧ Top l k j)
  bel : Below w.heap.size w wr
/-- Ahead of place k each key has a greater one. -/
def Lesser (l : List Ky) (k : Nat) : Prop := ∀ i b, i < k → l[i]? = some b → ∃ (j : Nat) (a : Ky), l[j]? = some a ∧ kval b < kval a
theorem Lesser.start (l : List Ky) : Lesser l 0 := fun i b h => by omega
theorem Lesser.more {l : List Ky} {k : Nat} (h : Lesser l k) (g : ∀ c, l[k]? = some c → ∃ (j : Nat) (a : Ky), l[j]? = some a ∧ kval c < kval a) : Lesser l (k + 1) := fun i b hi hb => by
  by_cases hk : i < k
  · exact h i b hk hb
  · obtain rfl : i = k := by omega
    exact g b hb
theorem Lesser.top {l : List Ky} {k : Nat} (h : Lesser l k) (hk : k < l.length) (g : ∀ i a c, i < l.length → l[i]? = some a → l[k]? = some c → kval a ≤ kval c) : Top l l.length k := ⟨hk, g, fun i a b hi ha hb => by
  obtain ⟨j, c, hc, hlt⟩ := h i a hi ha
  have := g j c b (List.getElem?_eq_some_iff.1 hc).1 hc hb
  omega⟩
theorem Lesser.none {l : List Ky} (h : Lesser l l.length) : topF l = -1 := by
  by_cases h0 : l.length = 0
  · exact topF_none h0
  · obtain ⟨j, _, hj⟩ := topF_has h0
    have hl := hj.lt
    obtain ⟨b, hb⟩ : ∃ b, l[j]? = some b := ⟨_, List.getElem?_eq_getElem hl⟩
    obtain ⟨i, a, ha, hlt⟩ := h j b hl hb
    have := hj.all i a b (List.getElem?_eq_some_iff.1 ha).1 ha hb
    omega
structure RgRel (w : World) (l : List Ky) (i : Value) (wr : World) : Prop where
  ex : ∃ k : Nat, k ≤ l.length ∧ i = .int .i64 (k : Int) ∧ Lesser l k
  bel : Below w.heap.size w wr
structure RhRel (w : World) (l : List Ky) (k : Nat) (i v : Value) (wr : World) : Prop where
  ex : ∃ (m : Nat) (b : Bool), m ≤ l.length ∧ i = .int .i64 (m : Int) ∧ v = .bool b ∧ (b = true → ∀ i a c, i < m → l[i]? = some a → l[k]? = some c → kval a ≤ kval c) ∧ (b = false → ∀ c, l[k]? = some c → ∃ (j : Nat) (a : Ky), l[j]? = some a ∧ kval c < kval a)
  bel : Below w.heap.size w wr
set_option maxHeartbeats 4000000 in
set_option maxRecDepth 100000 in
theorem greatest_any (l : List Ky) (P : Option Addr) (pc : Nat) (w : World) (hs : At kK w P l) (hm : l.length ≤ 1000) :
    Calls Tryd.prog 14 #[.slice P l.length pc] w fun e w' => e = .returned (.int .i64 (topF l)) ∧ Below w.heap.size w w' := by
  have HS := Lib.hid hs
  have CC := Lib.hid (fun a b w0 ka kb => compare_any a b w0 ka kb)
  have h0 : GtRel w l (.int .i64 0) (.int .i64 (-1)) w := ⟨⟨0, by omega, rfl, .inl ⟨rfl, rfl⟩⟩, Below.refl _ _⟩
  clear hs
  go_enter Tryd.func14, Tryd.ntmps14
  go_wp2_with fail
  go_loopw [8, 3] (fun i g wr => GtRel w l i g wr) (fun i _ _ => l.length - (intOf i).toNat)
  case atStart => exact h0
  case round =>
    clear h0
    obtain ⟨⟨k, hk, rfl, hg⟩, bel⟩ := hrel
    have HG := Lib.hid hg
    clear hg
    by_cases hlt : k < l.length
    · obtain ⟨t, g, o, ht, kt, hP, hgl, hrs⟩ := HS.out.get hlt
      subst hP
      have RA : Hid (∀ w', Below w.heap.size w w' → w'.rangeAt g (o + k * 65) (kcs t)) := Lib.hid fun w' hb => range_block hrs (hb.block g hgl)
      have RT := Lib.hid (RA.out _ bel); have KT := Lib.hid kt; have HT := Lib.hid ht
      have ik : (k : Int) < (l.length : Int) := by omega
      clear hrs kt ht RA
      rcases HG.out with ⟨rfl, rfl⟩ | ⟨j, rfl, hj⟩
      · clear HG
        go_wp2_with (first
          | ((with_reducible refine at_slot 11 ?_); (refine arm_want (.pointer (some ⟨g, o + 0 * 65, none⟩)) 11 rfl (by kernel_rfl) (run_op_index fK _ _ rfl g o _ _ rfl .i64 _ rfl 0 rfl hlt _) ?_))
          | ((with_reducible refine at_slot 12 ?_); (refine arm_load (o := ⟨some 12, _, _, _, _, _⟩) rfl _ _ rfl g (o + 0 * 65) rfl (kcs t) (RT.out) (sz_key KT.out) ?_))
          | ((with_reducible refine at_slot 5 ?_); (refine arm_alloc (o := ⟨some 5, _, _, _, _, _⟩) rfl _ rfl (kcs zk) z_key ?_); intro X v101 Xe hv101 nv101)
          | ((with_reducible refine arm_store (o := ⟨none, _, _, _, _, _⟩) rfl _ _ _ rfl X 0 rfl (kcs t) rfl _ _ (hv101) (fitK KT.out) (kcs_one _) (sz_key KT.out) ?_); intro v102 hv102 ov102 sv102))
        have q0 := Xe.out
        have q1 := nv101.size
        have q2 := sv102.out
        have q3 := bel.size
        have lX : w.heap.size ≤ X := by omega
        have rX103 : Row v102 X 37 (kcs t) := (hv102.congr (allK KT.out))
        have bel103 : Below w.heap.size w v102 := (below_only (below_step bel (by omega) nv101.below) ov102 lX (by omega))
        clear q0 q1 q2 q3 bel Xe hv101 nv101 hv102 ov102 sv102
        refine wp_region_held (S := fun w' => True) (by kernel_rfl) ?_
        change wpAnyH _ _ _ _ _ _ _ _ v102.drew
        have rX104 : Row v102.drew X 37 (kcs t) := rX103
        have bel104 : Below w.heap.size w v102.drew := bel103.trans ((Below.refl _ _).drew)
        clear rX103 bel103
        generalize v102.drew = y104 at rX104 bel104 ⊢
        refine h_take 0 (.int .i64 (-1)) rfl 13 rfl (by kernel_rfl) (by kernel_rfl) (by kernel_rfl) (by kernel_rfl) (fun _ _ _ h => h) (fun w' _ => by kernel_rfl) trivial ?_
        simp only [Act.put, List.setIfInBounds_toArray, List.set_cons_zero, List.set_cons_succ]
        refine h_take 1 (.bool true) rfl 14 rfl (by kernel_rfl) (by kernel_rfl) (by kernel_rfl) (by kernel_rfl) (fun _ _ _ h => h) (fun w' _ => by kernel_rfl) trivial ?_
        simp only [Act.put, List.setIfInBounds_toArray, List.set_cons_zero, List.set_cons_succ]
        refine h_take 2 (.bool true) rfl 15 rfl (by kernel_rfl) (by kernel_rfl) (by kernel_rfl) (by kernel_rfl) (fun _ _ _ h => h) (fun w' _ => by kernel_rfl) trivial ?_
        simp only [Act.put, List.setIfInBounds_toArray, List.set_cons_zero, List.set_cons_succ]
        refine h_pass 3 rfl 16 rfl (by kernel_rfl) (by kernel_rfl) (by kernel_rfl) (by kernel_rfl) (fun _ _ _ h => h) trivial ?_
        simp only [Act.put, List.setIfInBounds_toArray, List.set_cons_zero, List.set_cons_succ]
        refine h_pass 4 rfl 17 rfl (by kernel_rfl) (by kernel_rfl) (by kernel_rfl) (by kernel_rfl) (fun _ _ _ h => h) trivial ?_
        simp only [Act.put, List.setIfInBounds_toArray, List.set_cons_zero, List.set_cons_succ]
        refine h_pass 5 rfl 18 rfl (by kernel_rfl) (by kernel_rfl) (by kernel_rfl) (by kernel_rfl) (fun _ _ _ h => h) trivial ?_
        simp only [Act.put, List.setIfInBounds_toArray, List.set_cons_zero, List.set_cons_succ]
        refine h_pass 6 rfl 19 rfl (by kernel_rfl) (by kernel_rfl) (by kernel_rfl) (by kernel_rfl) (fun _ _ _ h => h) trivial ?_
        simp only [Act.put, List.setIfInBounds_toArray, List.set_cons_zero, List.set_cons_succ]
        refine h_pass 7 rfl 20 rfl (by kernel_rfl) (by kernel_rfl) (by kernel_rfl) (by kernel_rfl) (fun _ _ _ h => h) trivial ?_
        simp only [Act.put, List.setIfInBounds_toArray, List.set_cons_zero, List.set_cons_succ]
        refine h_pass 8 rfl 21 rfl (by kernel_rfl) (by kernel_rfl) (by kernel_rfl) (by kernel_rfl) (fun _ _ _ h => h) trivial ?_
        simp only [Act.put, List.setIfInBounds_toArray, List.set_cons_zero, List.set_cons_succ]
        refine h_pass 9 rfl 22 rfl (by kernel_rfl) (by kernel_rfl) (by kernel_rfl) (by kernel_rfl) (fun _ _ _ h => h) trivial ?_
        simp only [Act.put, List.setIfInBounds_toArray, List.set_cons_zero, List.set_cons_succ]
        refine h_take 10 (.bool true) rfl 23 rfl (by kernel_rfl) (by kernel_rfl) (by kernel_rfl) (by kernel_rfl) (fun _ _ _ h => h) (fun w' _ => by kernel_rfl) trivial ?_
        simp only [Act.put, List.setIfInBounds_toArray, List.set_cons_zero, List.set_cons_succ]
        refine wpAnyH_done (by kernel_rfl) ?_ _
        try simp only [Act.put]
        go_wp2_with fail
        go_roundw
        case rel => exact ⟨⟨1, by omega, rfl, .inr ⟨0, rfl, Top.one l⟩⟩, bel104⟩
        case measure => simp [intOf]; omega
      · have HJ := Lib.hid hj
        have hjk := hj.lt
        obtain ⟨b, g2, o2, hb, kb, hP2, _, hrs2⟩ := HS.out.get (k := j) (by omega)
        obtain ⟨rfl, rfl⟩ : g = g2 ∧ o = o2 := by simpa using hP2
        have RB : Hid (∀ w', Below w.heap.size w w' → w'.rangeAt g (o + j * 65) (kcs b)) := Lib.hid fun w' hb => range_block hrs2 (hb.block g hgl)
        have KB := Lib.hid kb; have HB := Lib.hid hb
        have hjl : j < l.length := by omega
        clear hrs2 kb hb hj hP2 HG
        go_wp2_with (first
          | ((with_reducible refine at_slot 11 ?_); (refine arm_want (.pointer (some ⟨g, o + k * 65, none⟩)) 11 rfl (by kernel_rfl) (run_op_index fK _ _ rfl g o _ _ rfl .i64 _ rfl k rfl hlt _) ?_))
          | ((with_reducible refine at_slot 12 ?_); (refine arm_load (o := ⟨some 12, _, _, _, _, _⟩) rfl _ _ rfl g (o + k * 65) rfl (kcs t) (RT.out) (sz_key KT.out) ?_))
          | ((with_reducible refine at_slot 5 ?_); (refine arm_alloc (o := ⟨some 5, _, _, _, _, _⟩) rfl _ rfl (kcs zk) z_key ?_); intro X v101 Xe hv101 nv101)
          | ((with_reducible refine arm_store (o := ⟨none, _, _, _, _, _⟩) rfl _ _ _ rfl X 0 rfl (kcs t) rfl _ _ (hv101) (fitK KT.out) (kcs_one _) (sz_key KT.out) ?_); intro v102 hv102 ov102 sv102))
        have q0 := Xe.out
        have q1 := nv101.size
        have q2 := sv102.out
        have q3 := bel.size
        have lX : w.heap.size ≤ X := by omega
        have rX103 : Row v102 X 37 (kcs t) := (hv102.congr (allK KT.out))
        have bel103 : Below w.heap.size w v102 := (below_only (below_step bel (by omega) nv101.below) ov102 lX (by omega))
        clear q0 q1 q2 q3 bel Xe hv101 nv101 hv102 ov102 sv102
        by_cases hv : kval b < kval t
        · have hv1 : decide ((0 : Int) < kcmp t b) = true := decide_eq_true (cmpN_pos.2 hv)
          have HV := Lib.hid hv1
          have HN := Lib.hid (HJ.out.turn HT.out HB.out hv)
          clear hv hv1
          generalize hq : kcmp t b = q at HV
          have HQ := Lib.hid hq
          clear hq
          refine wp_region_quiet (C := fun w' => Below v102.heap.size v102 w') (by kernel_rfl) (by kernel_rfl) ((Below.refl _ _).drew) ?_
          rw [List.toList_toArray]
          refine q_value 13 rfl (.int .i64 (j : Int)) (by kernel_rfl) (fun w' _ => by kernel_rfl) ?_
          simp only [Act.put, List.setIfInBounds_toArray, List.set_cons_zero, List.set_cons_succ]
          refine q_value 14 rfl (.bool false) (by kernel_rfl) (fun w' _ => cmp_lss _ _ _ _ rfl .i64 (j : Int) 0 rfl rfl false (decide_eq_false (by omega)) w') ?_
          simp only [Act.put, List.setIfInBounds_toArray, List.set_cons_zero, List.set_cons_succ]
          refine q_value 15 rfl (.bool false) (by kernel_rfl) (fun w' _ => by kernel_rfl) ?_
          simp only [Act.put, List.setIfInBounds_toArray, List.set_cons_zero, List.set_cons_succ]
          refine q_value 16 rfl (.agg (kcs t).toArray) (by kernel_rfl) (fun w' hC => run_op_load _ _ rfl X 0 rfl (kcs t) ((Has.refl _).range (rX103.old hC)) (sz_key KT.out)) ?_
          simp only [Act.put, List.setIfInBounds_toArray, List.set_cons_zero, List.set_cons_succ]
          refine q_value 17 rfl (.slice (some ⟨g, o, none⟩) l.length pc) (by kernel_rfl) (fun w' _ => by kernel_rfl) ?_
          simp only [Act.put, List.setIfInBounds_toArray, List.set_cons_zero, List.set_cons_succ]
          refine q_value 18 rfl (.int .i64 (j : Int)) (by kernel_rfl) (fun w' _ => by kernel_rfl) ?_
          simp only [Act.put, List.setIfInBounds_toArray, List.set_cons_zero, List.set_cons_succ]
          refine q_value 19 rfl (.pointer (some ⟨g, o + j * 65, none⟩)) (by kernel_rfl) (fun w' _ => run_op_index fK _ _ rfl g o _ _ rfl .i64 _ rfl j rfl hjl w') ?_
          simp only [Act.put, List.setIfInBounds_toArray, List.set_cons_zero, List.set_cons_succ]
          refine q_value 20 rfl (.agg (kcs b).toArray) (by kernel_rfl) (fun w' hC => run_op_load _ _ rfl g (o + j * 65) rfl (kcs b) (RB.out w' (below_step bel103 bel103.size hC)) (sz_key KB.out)) ?_
          simp only [Act.put, List.setIfInBounds_toArray, List.set_cons_zero, List.set_cons_succ]
          refine q_call 21 rfl (.int .i64 q) 10 #[.agg (kcs t).toArray, .agg (kcs b).toArray] (by kernel_rfl) (fun w' _ => run_op_call _ _ _ rfl _ (by simp only [List.map_toArray, List.map_cons, List.map_nil]; rfl) Tryd.func10 (by kernel_rfl) (by kernel_rfl) w') (fun w' hC => (HQ.out ▸ CC.out t b w' KT.out KB.out).mono fun e w'' h => ⟨h.1, below_step hC hC.size h.2⟩) ?_
          simp only [Act.put, List.setIfInBounds_toArray, List.set_cons_zero, List.set_cons_succ]
          refine q_value 22 rfl (.bool true) (by kernel_rfl) (fun w' _ => cmp_gtr _ _ _ _ rfl .i64 q 0 rfl rfl true HV.out w') ?_
          simp only [Act.put, List.setIfInBounds_toArray, List.set_cons_zero, List.set_cons_succ]
          refine q_value 23 rfl (.bool true) (by kernel_rfl) (fun w' _ => by kernel_rfl) ?_
          simp only [Act.put, List.setIfInBounds_toArray, List.set_cons_zero, List.set_cons_succ]
          refine wpQuiet_nil ?_
          intro w2 hC
          go_wp2_with fail
          try simp only [Act.put]
          go_roundw
          case rel => exact ⟨⟨k + 1, by omega, by go_num, .inr ⟨k, rfl, HN.out⟩⟩, below_step bel103 bel103.size hC⟩
          case measure => simp [intOf]; omega
        · have hv1 : decide ((0 : Int) < kcmp t b) = false := decide_eq_false (fun h => hv (cmpN_pos.1 h))
          have HV := Lib.hid hv1
          have HN := Lib.hid (HJ.out.stay HT.out HB.out (by omega))
          clear hv hv1
          generalize hq : kcmp t b = q at HV
          have HQ := Lib.hid hq
          clear hq
          refine wp_region_quiet (C := fun w' => Below v102.heap.size v102 w') (by kernel_rfl) (by kernel_rfl) ((Below.refl _ _).drew) ?_
          rw [List.toList_toArray]
          refine q_value 13 rfl (.int .i64 (j : Int)) (by kernel_rfl) (fun w' _ => by kernel_rfl) ?_
          simp only [Act.put, List.setIfInBounds_toArray, List.set_cons_zero, List.set_cons_succ]
          refine q_value 14 rfl (.bool false) (by kernel_rfl) (fun w' _ => cmp_lss _ _ _ _ rfl .i64 (j : Int) 0 rfl rfl false (decide_eq_false (by omega)) w') ?_
          simp only [Act.put, List.setIfInBounds_toArray, List.set_cons_zero, List.set_cons_succ]
          refine q_value 15 rfl (.bool false) (by kernel_rfl) (fun w' _ => by kernel_rfl) ?_
          simp only [Act.put, List.setIfInBounds_toArray, List.set_cons_zero, List.set_cons_succ]
          refine q_value 16 rfl (.agg (kcs t).toArray) (by kernel_rfl) (fun w' hC => run_op_load _ _ rfl X 0 rfl (kcs t) ((Has.refl _).range (rX103.old hC)) (sz_key KT.out)) ?_
          simp only [Act.put, List.setIfInBounds_toArray, List.set_cons_zero, List.set_cons_succ]
          refine q_value 17 rfl (.slice (some ⟨g, o, none⟩) l.length pc) (by kernel_rfl) (fun w' _ => by kernel_rfl) ?_
          simp only [Act.put, List.setIfInBounds_toArray, List.set_cons_zero, List.set_cons_succ]
          refine q_value 18 rfl (.int .i64 (j : Int)) (by kernel_rfl) (fun w' _ => by kernel_rfl) ?_
          simp only [Act.put, List.setIfInBounds_toArray, List.set_cons_zero, List.set_cons_succ]
          refine q_value 19 rfl (.pointer (some ⟨g, o + j * 65, none⟩)) (by kernel_rfl) (fun w' _ => run_op_index fK _ _ rfl g o _ _ rfl .i64 _ rfl j rfl hjl w') ?_
          simp only [Act.put, List.setIfInBounds_toArray, List.set_cons_zero, List.set_cons_succ]
          refine q_value 20 rfl (.agg (kcs b).toArray) (by kernel_rfl) (fun w' hC => run_op_load _ _ rfl g (o + j * 65) rfl (kcs b) (RB.out w' (below_step bel103 bel103.size hC)) (sz_key KB.out)) ?_
          simp only [Act.put, List.setIfInBounds_toArray, List.set_cons_zero, List.set_cons_succ]
          refine q_call 21 rfl (.int .i64 q) 10 #[.agg (kcs t).toArray, .agg (kcs b).toArray] (by kernel_rfl) (fun w' _ => run_op_call _ _ _ rfl _ (by simp only [List.map_toArray, List.map_cons, List.map_nil]; rfl) Tryd.func10 (by kernel_rfl) (by kernel_rfl) w') (fun w' hC => (HQ.out ▸ CC.out t b w' KT.out KB.out).mono fun e w'' h => ⟨h.1, below_step hC hC.size h.2⟩) ?_
          simp only [Act.put, List.setIfInBounds_toArray, List.set_cons_zero, List.set_cons_succ]
          refine q_value 22 rfl (.bool false) (by kernel_rfl) (fun w' _ => cmp_gtr _ _ _ _ rfl .i64 q 0 rfl rfl false HV.out w') ?_
          simp only [Act.put, List.setIfInBounds_toArray, List.set_cons_zero, List.set_cons_succ]
          refine q_value 23 rfl (.bool false) (by kernel_rfl) (fun w' _ => by kernel_rfl) ?_
          simp only [Act.put, List.setIfInBounds_toArray, List.set_cons_zero, List.set_cons_succ]
          refine wpQuiet_nil ?_
          intro w2 hC
          go_wp2_with fail
          try simp only [Act.put]
          go_roundw
          case rel => exact ⟨⟨k + 1, by omega, by go_num, .inr ⟨j, rfl, HN.out⟩⟩, below_step bel103 bel103.size hC⟩
          case measure => simp [intOf]; omega
    · obtain rfl : k = l.length := by omega
      rcases HG.out with ⟨h, rfl⟩ | ⟨j, rfl, hj⟩
      · have HQ := Lib.hid (topF_none h)
        clear HG
        go_wp2_with fail
        rw [HQ.out]
        go_ret
        exact ⟨rfl, bel⟩
      · have HQ := Lib.hid (topF_of hj)
        clear HG
        go_wp2_with fail
        rw [HQ.out]
        go_ret
        exact ⟨rfl, bel⟩
set_option maxHeartbeats 4000000 in
set_option maxRecDepth 100000 in
theorem rgreatest_any (l : List Ky) (P : Option Addr) (pc : Nat) (w : World) (hs : At kRK w P l) (hm : l.length ≤ 1000) :
    Calls Tryd.prog 15 #[.slice P l.length pc] w fun e w' => e = .returned (.int .i64 (topF l)) ∧ Below w.heap.size w w' := by
  have HS := Lib.hid hs
  have CC := Lib.hid (fun a b w0 ka kb => rcompare_any a b w0 ka kb)
  have h0 : RgRel w l (.int .i64 0) w := ⟨⟨0, by omega, rfl, Lesser.start l⟩, Below.refl _ _⟩
  clear hs
  go_enter Tryd.func15, Tryd.ntmps15
  go_wp2_with fail
  go_loopw [3] (fun i wr => RgRel w l i wr) (fun i _ => l.length - (intOf i).toNat)
  case atStart => exact h0
  case round =>
    clear h0
    obtain ⟨⟨k, hk, rfl, hg⟩, bel⟩ := hrel
    have HG := Lib.hid hg
    clear hg
    by_cases hlt : k < l.length
    · obtain ⟨c, g, o, hc, kc, hP, hgl, hrs⟩ := HS.out.get hlt
      subst hP
      have RC : Hid (∀ w', Below w.heap.size w w' → w'.rangeAt g (o + k * 65) (kcs c)) := Lib.hid fun w' hb => range_block hrs (hb.block g hgl)
      have KC := Lib.hid kc; have HC := Lib.hid hc
      have ik : (k : Int) < (l.length : Int) := by omega
      clear hrs kc hc
      go_wp2_with fail
      have h1 : RhRel w l k (.int .i64 0) (.bool true) wr := ⟨⟨0, true, by omega, rfl, rfl, (fun _ i a c h => by omega), (fun h => by cases h)⟩, bel⟩
      clear bel
      go_loopw [5, 4] (fun i v wr => RhRel w l k i v wr) (fun i _ _ => l.length - (intOf i).toNat)
      case atStart => exact h1
      case round =>
        clear h1
        obtain ⟨⟨m, v, hm1, rfl, rfl, hv1, hv2⟩, bel⟩ := hrel
        have HV1 := Lib.hid hv1; have HV2 := Lib.hid hv2
        clear hv1 hv2
        by_cases hml : m < l.length
        · obtain ⟨t, g2, o2, ht, kt, hP2, _, hrs2⟩ := HS.out.get hml
          obtain ⟨rfl, rfl⟩ : g = g2 ∧ o = o2 := by simpa using hP2
          have RT : Hid (∀ w', Below w.heap.size w w' → w'.rangeAt g (o + m * 65) (kcs t)) := Lib.hid fun w' hb => range_block hrs2 (hb.block g hgl)
          have KT := Lib.hid kt; have HT := Lib.hid ht
          have im : (m : Int) < (l.length : Int) := by omega
          clear hrs2 kt ht hP2
          go_wp2_with fail
          by_cases hv : kval c < kval t
          · have HV := Lib.hid (show decide ((0 : Int) < kcmp t c) = true from decide_eq_true (cmpN_pos.2 hv))
            have HN1 := Lib.hid (show ∀ c', l[k]? = some c' → ∃ (j : Nat) (a : Ky), l[j]? = some a ∧ kval c' < kval a from fun c' h => ⟨m, t, HT.out, by rw [HC.out] at h; obtain rfl : c = c' := Option.some.inj h; exact hv⟩)
            clear hv
            generalize hq : kcmp t c = q at HV
            have HQ := Lib.hid hq
            clear hq
            refine wp_region_quiet (C := fun w' => Below wr.heap.size wr w') (by kernel_rfl) (by kernel_rfl) ((Below.refl _ _).drew) ?_
            rw [List.toList_toArray]
            refine q_value 18 rfl (.slice (some ⟨g, o, none⟩) l.length pc) (by kernel_rfl) (fun w' _ => by kernel_rfl) ?_
            simp only [Act.put, List.setIfInBounds_toArray, List.set_cons_zero, List.set_cons_succ]
            refine q_value 19 rfl (.int .i64 (m : Int)) (by kernel_rfl) (fun w' _ => by kernel_rfl) ?_
            simp only [Act.put, List.setIfInBounds_toArray, List.set_cons_zero, List.set_cons_succ]
            refine q_value 20 rfl (.pointer (some ⟨g, o + m * 65, none⟩)) (by kernel_rfl) (fun w' _ => run_op_index fRK _ _ rfl g o _ _ rfl .i64 _ rfl m rfl hml w') ?_
            simp only [Act.put, List.setIfInBounds_toArray, List.set_cons_zero, List.set_cons_succ]
            refine q_value 21 rfl (.agg (kcs t).toArray) (by kernel_rfl) (fun w' hC => run_op_load _ _ rfl g (o + m * 65) rfl (kcs t) (RT.out w' (below_step bel bel.size hC)) (sz_rkey KT.out)) ?_
            simp only [Act.put, List.setIfInBounds_toArray, List.set_cons_zero, List.set_cons_succ]
            refine q_value 22 rfl (.slice (some ⟨g, o, none⟩) l.length pc) (by kernel_rfl) (fun w' _ => by kernel_rfl) ?_
            simp only [Act.put, List.setIfInBounds_toArray, List.set_cons_zero, List.set_cons_succ]
            refine q_value 23 rfl (.int .i64 (k : Int)) (by kernel_rfl) (fun w' _ => by kernel_rfl) ?_
            simp only [Act.put, List.setIfInBounds_toArray, List.set_cons_zero, List.set_cons_succ]
            refine q_value 24 rfl (.pointer (some ⟨g, o + k * 65, none⟩)) (by kernel_rfl) (fun w' _ => run_op_index fRK _ _ rfl g o _ _ rfl .i64 _ rfl k rfl hlt w') ?_
            simp only [Act.put, List.setIfInBounds_toArray, List.set_cons_zero, List.set_cons_succ]
            refine q_value 25 rfl (.agg (kcs c).toArray) (by kernel_rfl) (fun w' hC => run_op_load _ _ rfl g (o + k * 65) rfl (kcs c) (RC.out w' (below_step bel bel.size hC)) (sz_rkey KC.out)) ?_
            simp only [Act.put, List.setIfInBounds_toArray, List.set_cons_zero, List.set_cons_succ]
            refine q_call 26 rfl (.int .i64 q) 11 #[.agg (kcs t).toArray, .agg (kcs c).toArray] (by kernel_rfl) (fun w' _ => run_op_call _ _ _ rfl _ (by simp only [List.map_toArray, List.map_cons, List.map_nil]; rfl) Tryd.func11 (by kernel_rfl) (by kernel_rfl) w') (fun w' hC => (HQ.out ▸ CC.out t c w' KT.out KC.out).mono fun e w'' h => ⟨h.1, below_step hC hC.size h.2⟩) ?_
            simp only [Act.put, List.setIfInBounds_toArray, List.set_cons_zero, List.set_cons_succ]
            refine q_value 27 rfl (.bool true) (by kernel_rfl) (fun w' _ => cmp_gtr _ _ _ _ rfl .i64 q 0 rfl rfl true HV.out w') ?_
            simp only [Act.put, List.setIfInBounds_toArray, List.set_cons_zero, List.set_cons_succ]
            refine wpQuiet_nil ?_
            intro w2 hC
            go_wp2_with fail
            try simp only [Act.put]
            go_roundw
            case rel => exact ⟨⟨m + 1, false, by omega, by go_num, rfl, (fun h => by cases h), (fun _ => HN1.out)⟩, below_step bel bel.size hC⟩
            case measure => simp [intOf]; omega
          · have HV := Lib.hid (show decide ((0 : Int) < kcmp t c) = false from decide_eq_false (fun h => hv (cmpN_pos.1 h)))
            have HN1 := Lib.hid (show v = true → ∀ i a c', i < m + 1 → l[i]? = some a → l[k]? = some c' → kval a ≤ kval c' from fun e i a c' hi ha hc' => by
              by_cases him : i < m
              · exact HV1.out e i a c' him ha hc'
              · obtain rfl : i = m := by omega
                rw [HT.out] at ha; rw [HC.out] at hc'
                rw [← Option.some.inj ha, ← Option.some.inj hc']
                omega)
            clear hv
            generalize hq : kcmp t c = q at HV
            have HQ := Lib.hid hq
            clear hq
            refine wp_region_quiet (C := fun w' => Below wr.heap.size wr w') (by kernel_rfl) (by kernel_rfl) ((Below.refl _ _).drew) ?_
            rw [List.toList_toArray]
            refine q_value 18 rfl (.slice (some ⟨g, o, none⟩) l.length pc) (by kernel_rfl) (fun w' _ => by kernel_rfl) ?_
            simp only [Act.put, List.setIfInBounds_toArray, List.set_cons_zero, List.set_cons_succ]
            refine q_value 19 rfl (.int .i64 (m : Int)) (by kernel_rfl) (fun w' _ => by kernel_rfl) ?_
            simp only [Act.put, List.setIfInBounds_toArray, List.set_cons_zero, List.set_cons_succ]
            refine q_value 20 rfl (.pointer (some ⟨g, o + m * 65, none⟩)) (by kernel_rfl) (fun w' _ => run_op_index fRK _ _ rfl g o _ _ rfl .i64 _ rfl m rfl hml w') ?_
            simp only [Act.put, List.setIfInBounds_toArray, List.set_cons_zero, List.set_cons_succ]
            refine q_value 21 rfl (.agg (kcs t).toArray) (by kernel_rfl) (fun w' hC => run_op_load _ _ rfl g (o + m * 65) rfl (kcs t) (RT.out w' (below_step bel bel.size hC)) (sz_rkey KT.out)) ?_
            simp only [Act.put, List.setIfInBounds_toArray, List.set_cons_zero, List.set_cons_succ]
            refine q_value 22 rfl (.slice (some ⟨g, o, none⟩) l.length pc) (by kernel_rfl) (fun w' _ => by kernel_rfl) ?_
            simp only [Act.put, List.setIfInBounds_toArray, List.set_cons_zero, List.set_cons_succ]
            refine q_value 23 rfl (.int .i64 (k : Int)) (by kernel_rfl) (fun w' _ => by kernel_rfl) ?_
            simp only [Act.put, List.setIfInBounds_toArray, List.set_cons_zero, List.set_cons_succ]
            refine q_value 24 rfl (.pointer (some ⟨g, o + k * 65, none⟩)) (by kernel_rfl) (fun w' _ => run_op_index fRK _ _ rfl g o _ _ rfl .i64 _ rfl k rfl hlt w') ?_
            simp only [Act.put, List.setIfInBounds_toArray, List.set_cons_zero, List.set_cons_succ]
            refine q_value 25 rfl (.agg (kcs c).toArray) (by kernel_rfl) (fun w' hC => run_op_load _ _ rfl g (o + k * 65) rfl (kcs c) (RC.out w' (below_step bel bel.size hC)) (sz_rkey KC.out)) ?_
            simp only [Act.put, List.setIfInBounds_toArray, List.set_cons_zero, List.set_cons_succ]
            refine q_call 26 rfl (.int .i64 q) 11 #[.agg (kcs t).toArray, .agg (kcs c).toArray] (by kernel_rfl) (fun w' _ => run_op_call _ _ _ rfl _ (by simp only [List.map_toArray, List.map_cons, List.map_nil]; rfl) Tryd.func11 (by kernel_rfl) (by kernel_rfl) w') (fun w' hC => (HQ.out ▸ CC.out t c w' KT.out KC.out).mono fun e w'' h => ⟨h.1, below_step hC hC.size h.2⟩) ?_
            simp only [Act.put, List.setIfInBounds_toArray, List.set_cons_zero, List.set_cons_succ]
            refine q_value 27 rfl (.bool false) (by kernel_rfl) (fun w' _ => cmp_gtr _ _ _ _ rfl .i64 q 0 rfl rfl false HV.out w') ?_
            simp only [Act.put, List.setIfInBounds_toArray, List.set_cons_zero, List.set_cons_succ]
            refine wpQuiet_nil ?_
            intro w2 hC
            go_wp2_with fail
            try simp only [Act.put]
            go_roundw
            case rel => exact ⟨⟨m + 1, v, by omega, by go_num, rfl, HN1.out, HV2.out⟩, below_step bel bel.size hC⟩
            case measure => simp [intOf]; omega
        · obtain rfl : m = l.length := by omega
          cases v
          · have HN := Lib.hid (HG.out.more (HV2.out rfl))
            go_wp2_with fail
            try simp only [Act.put]
            go_roundw
            case rel => exact ⟨⟨k + 1, by omega, by go_num, HN.out⟩, bel⟩
            case measure => simp [intOf]; omega
          · have HN := Lib.hid (topF_of (HG.out.top hlt (HV1.out rfl)))
            go_wp2_with fail
            rw [HN.out]
            go_ret
            exact ⟨rfl, bel⟩
    · obtain rfl : k = l.length := by omega
      have HQ := Lib.hid HG.out.none
      clear HG
      go_wp2_with fail
      rw [HQ.out]
      go_ret
      exact ⟨rfl, bel⟩
end Go.Proofs.YtffdmfclakgocaaDoor.Od
