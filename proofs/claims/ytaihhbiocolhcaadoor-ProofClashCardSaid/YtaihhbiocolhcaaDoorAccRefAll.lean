import Derived.Test.YtaihhbiocolhcaaDoorAccAll
import Derived.Test.YtaihhbiocolhcaaDoorWireRefAll
/-
  The contracts of the document's One of layer 3, and of its Bytes, Hash and None of layer 14. Over this seat's translation.
-/
namespace Go.Proofs.YtaihhbiocolhcaaDoor.Ac
open Go.ChangeShapes Go.WideShapes Go.ChangeAt Go.RowKit Go.Proofs.YtaihhbiocolhcaaDoor.Mem Go.Proofs.YtaihhbiocolhcaaDoor.Bt Go.Proofs.YtaihhbiocolhcaaDoor.Wi Go.Proofs.YtaihhbiocolhcaaDoor.Sha
open Go.Proofs.YtaihhbiocolhcaaDoor.Tg (bytesOf bytesOf_length bytesOf_lt bytesOf_inj Rd Rd.below Parts parts_one arm_one tagD tagD_len tagOf_any refTag_any)
open Go.Proofs.YtaihhbiocolhcaaDoor.Ep (H32 zh zh_ok Has h_len szH zH fitH allH)
set_option linter.unusedVariables false
set_option linter.unusedSimpArgs false

/-- What holds in the document's loop that writes a name. -/
structure RbRel (w w0 : World) (X : Nat) (a : Acct) (i v : Value) (wr : World) : Prop where
  ex : ∃ k : Nat, k ≤ a.nm.size ∧ i = .int .i64 (k : Int) ∧ ∃ p cap, v = .slice p (k + 1) cap ∧ Bt.Own wr w.heap.size p cap (a.nm.size :: (bytesOf a.nm).take k)
  row : Row wr X 45 (acs a)
  bel : Below w.heap.size w wr
theorem step_row {w w' : World} {X : Nat} {t : TypeId} {cs : List Value} {base : Nat} {p p' : Option Addr} {cap : Nat} {bs : List Nat} (hx : Row w X t cs) (ht : t ≠ 5) (ho : Bt.Own w base p cap bs) (hs : Step none p p' w w') : Row w' X t cs :=
  hx.of_block (hs.block X hx.lt (by simp) (row_not_own hx ht ho))
theorem step_bel {w w' w0 : World} {base : Nat} {p p' : Option Addr} {cap : Nat} {bs : List Nat} (hb : Below base w0 w) (hbs : base ≤ w.heap.size) (ho : Bt.Own w base p cap bs) (hs : Step none p p' w w') : Below base w0 w' :=
  hb.trans (hs.below (fun k hk => by cases hk) (own_low ho) hbs)
theorem take_next {l : List Nat} {k x : Nat} (hk : k < l.length) (hx : l.getD k 0 = x) : l.take k ++ [x] = l.take (k + 1) := by
  rw [Wi.take_snoc l k hk, hx]
set_option maxHeartbeats 4000000 in
set_option maxRecDepth 100000 in
theorem rbytes_any (a : Acct) (w : World) (k : a.Ok) :
    Calls Tryd.prog 49 #[.agg (acs a).toArray] w (BytesPost w a) := by
  have KB := Lib.hid k
  have CR := Lib.hid (fun w0 => rright_any a w0)
  clear k
  by_cases hr : NRt a.nm
  · have HB : Hid (ansB a = accB a) := Lib.hid (by unfold ansB; rw [if_pos hr])
    have HE : Hid (ansE a = 0) := Lib.hid (by unfold ansE; rw [if_pos hr])
    rw [decide_eq_true hr] at CR
    have c0 : (acs a)[0]? = some (.string a.nm) := rfl
    have c1 : (acs a)[1]? = some (.int .u64 (a.bal : Int)) := rfl
    have c2 : (acs a)[2]? = some (.int .u32 (a.non : Int)) := rfl
    have C0 := Lib.hid c0; have C1 := Lib.hid c1; have C2 := Lib.hid c2
    have hs8 := hr.2.1
    have HL := Lib.hid (accB_len a)
    have HAC : Hid (accB a = (a.nm.size :: bytesOf a.nm) ++ put a.bal 8 ++ put a.non 4) := Lib.hid rfl
    have CP1 := Lib.hid (fun w0 => Wi.put_any a.bal 8 w0 KB.out.bal (by omega))
    have CP2 := Lib.hid (fun w0 => Wi.put_any a.non 4 w0 (by have := KB.out.non; omega) (by omega))
    have KNON := Lib.hid KB.out.non
    obtain ⟨s, hs⟩ : ∃ s, s = a.nm := ⟨_, rfl⟩
    rw [← hs] at C0 hs8 HL HAC
    obtain ⟨u, hu⟩ : ∃ u, u = a.bal := ⟨_, rfl⟩
    obtain ⟨n, hn⟩ : ∃ n, n = a.non := ⟨_, rfl⟩
    rw [← hu] at C1 CP1 HAC
    rw [← hn] at C2 CP2 HAC KNON
    have HSL := Lib.hid (show s.size = (bytesOf s).length from (bytesOf_length s).symm)
    have HSN := Lib.hid hs
    have HM : Hid ((s.size : Int) % 256 = ((s.size : Nat) : Int)) := Lib.hid (by omega)
    have hwr : IntKind.u8.wrap (s.size : Int) = (s.size : Int) := by rw [IntKind.wrap_u8]; omega
    have hnn : n < 4294967296 := KNON.out
    clear hr hs hu hn c0 c1 c2
    go_enter Tryd.func49, Tryd.ntmps49
    go_wp2_with (first
      | ((with_reducible refine at_slot 1 ?_); (refine arm_box (o := ⟨some 1, _, _, _, _, _⟩) rfl _ _ rfl (acs a) rfl ?_); intro X w1 Xe hw1 nw1)
      | ((with_reducible refine at_slot 6 ?_); (refine arm_load (o := ⟨some 6, _, _, _, _, _⟩) rfl _ _ rfl X 0 rfl (acs a) ((Has.refl _).range hw1) (sz_racc a) ?_)))
    refine (CR.out w1).mono ?_
    rintro e w2 ⟨rfl, hB2⟩
    have hX2 := hw1.old hB2
    have bel2 : Below w.heap.size w w2 := below_step nw1.below nw1.below.size hB2
    have hc0 := hX2.cell C0.out
    clear hw1 nw1 Xe hB2
    go_wp2_with (first
      | ((with_reducible refine at_slot 13 ?_); (refine arm_buildSlice (o := ⟨some 13, _, _, _, _, _⟩) rfl 1 _ rfl [.int .u8 (s.size : Int)] #[(0, .int .u8 (s.size : Int))] (by simp [Act.eval]; try exact HM.out) (bs1 _) ?_); intro b3 w3 be hb3 nw3))
    have hX3 := hX2.old nw3.below
    have bel3 : Below w.heap.size w w3 := below_step bel2 bel2.size nw3.below
    have hO3 : Bt.Own w3 w.heap.size (some ⟨b3, 0, none⟩) 1 [s.size] := Tg.own_row (bs := [s.size]) hb3 (by have := be.out; have := bel2.size; omega) (by simp)
    have h0 : RbRel w w3 X a (.int .i64 0) (.slice (some ⟨b3, 0, none⟩) 1 1) w3 := ⟨⟨0, by omega, rfl, _, _, rfl, by rw [List.take_zero, ← HSN.out]; exact hO3⟩, hX3, bel3⟩
    clear hX2 hb3 nw3 be bel2 hX3 bel3 hO3 hc0
    try simp only [Act.put, List.setIfInBounds_toArray, List.set_cons_zero, List.set_cons_succ]
    go_loopw [5, 4] (fun i v wr => RbRel w w3 X a i v wr) (fun i _ _ => s.size - (intOf i).toNat)
    case atStart => exact h0
    case round =>
      clear h0
      obtain ⟨⟨k, hk, rfl, p, cap, rfl, hO⟩, hX, bel⟩ := hrel
      rw [← HSN.out] at hk hO
      have hc0 := hX.cell C0.out
      by_cases hq : k < s.size
      · have ik : (k : Int) < (s.size : Int) := by omega
        obtain ⟨x, hx⟩ : ∃ x, x = (bytesOf s).getD k 0 := ⟨_, rfl⟩
        have HX := Lib.hid hx
        have HO := Lib.hid hO; have HR := Lib.hid hX; have HQ := Lib.hid hq
        have HTN := Lib.hid (take_next (l := bytesOf s) (k := k) (x := x) (by rw [← HSL.out]; exact hq) hx.symm)
        have hlen : (s.size :: (bytesOf s).take k).length = k + 1 := by rw [List.length_cons, List.length_take, ← HSL.out]; omega
        have HLN := Lib.hid hlen
        have hk8 : k < 8 := by omega
        have hbs := bel.size
        clear hx hO hX hlen
        go_wp2_with (first
          | ((with_reducible refine at_slot 25 ?_); (refine arm_indexS (o := ⟨some 25, _, _, _, _, _⟩) rfl _ _ _ rfl (by kernel_rfl) s rfl .i64 k rfl HQ.out x HX.out.symm ?_); try simp only [Act.put, List.setIfInBounds_toArray, List.set_cons_zero, List.set_cons_succ])
          | ((with_reducible refine at_slot 26 ?_); (refine arm_buildSlice (o := ⟨some 26, _, _, _, _, _⟩) rfl 1 _ rfl [.int .u8 (x : Int)] #[(0, .int .u8 (x : Int))] (by simp [Act.eval]) (bs1 _) ?_); intro b4 w4 be hb4 nw4)
          | ((with_reducible refine at_slot 27 ?_); (refine arm_append2 (o := ⟨some 27, _, _, _, _, _⟩) rfl _ _ rfl w.heap.size p (k + 1) cap (s.size :: (bytesOf s).take k) HLN.out.symm rfl (HO.out.below nw4.below) (some ⟨b4, 0, none⟩) 1 1 [x] rfl rfl (fun h => by cases h) (fun _ => ⟨b4, 0, rfl, hb4.range 0 _ (fun j v hj => by rw [Nat.zero_add]; exact hj)⟩) (by rw [HLN.out, List.length_singleton]; omega) (by have := nw4.below.size; omega) ?_); intro p5 cap5 w5 hO5 hS5))
        have hX4 := HR.out.old nw4.below
        have bel4 : Below w.heap.size w w4 := below_step bel hbs nw4.below
        have hX5 : Row w5 X 45 (acs a) := step_row hX4 (by decide) (HO.out.below nw4.below) hS5
        have bel5 : Below w.heap.size w w5 := step_bel bel4 bel4.size (HO.out.below nw4.below) hS5
        rw [List.cons_append, HTN.out] at hO5
        clear hX4 bel4 hS5 hb4 nw4 be bel
        go_roundw
        case rel => exact ⟨⟨k + 1, by rw [← HSN.out]; exact HQ.out, by go_num, p5, cap5, rfl, by rw [← HSN.out]; exact hO5⟩, hX5, bel5⟩
        case measure => simp [intOf]; omega
      · obtain rfl : k = s.size := by omega
        rw [List.take_of_length_le (by rw [← HSL.out]; exact Nat.le_refl _)] at hO
        have hc1 := hX.cell C1.out
        have HO := Lib.hid hO; have HR := Lib.hid hX
        have HLN := Lib.hid (show (s.size :: bytesOf s).length = s.size + 1 by rw [List.length_cons, ← HSL.out])
        have hsM : s.size ≤ 8 := hs8
        clear hO hX hk hq
        obtain ⟨nl, hnl⟩ : ∃ nl, nl = s.size + 1 := ⟨_, rfl⟩
        rw [← hnl] at HLN ⊢
        have hnl9 : nl ≤ 9 := by omega
        clear hnl
        go_wp2_with fail
        refine (CP1.out wr).mono ?_
        rintro e w6 ⟨⟨p6, c6, rfl, hO6⟩, hB6⟩
        have HO6 := Lib.hid hO6
        have hO6' := HO.out.below hB6
        have hX6 := HR.out.old hB6
        have bel6 : Below w.heap.size w w6 := below_step bel bel.size hB6
        clear bel hB6 hc1 HR HO hO6
        have HOA := Lib.hid hO6'
        clear hO6'
        go_wp2_with (first
          | ((with_reducible refine at_slot 32 ?_); (refine arm_append2 (o := ⟨some 32, _, _, _, _, _⟩) rfl _ _ rfl w.heap.size p nl cap (s.size :: bytesOf s) HLN.out.symm rfl HOA.out p6 8 c6 (put u 8) rfl (put_length _ _).symm (fun h => by have := own_none HO6.out h; rw [put_length] at this; omega) HO6.out.bytes (by rw [HLN.out, put_length]; omega) bel6.size ?_); intro p7 c7 w7 hO7 hS7; have hc2 := (step_row hX6 (by decide) HOA.out hS7).cell C2.out))
        have hX7 : Row w7 X 45 (acs a) := step_row hX6 (by decide) HOA.out hS7
        have bel7 : Below w.heap.size w w7 := step_bel bel6 bel6.size HOA.out hS7
        have HO7 := Lib.hid hO7
        clear hX6 bel6 hS7 HOA HO6 hO7
        refine (CP2.out w7).mono ?_
        rintro e w8 ⟨⟨p8, c8, rfl, hO8⟩, hB8⟩
        have HO8 := Lib.hid hO8
        have HOB := Lib.hid (HO7.out.below hB8)
        have bel8 : Below w.heap.size w w8 := below_step bel7 bel7.size hB8
        have HL7 : Hid (((s.size :: bytesOf s) ++ put u 8).length = nl + 8) := Lib.hid (by rw [List.length_append, put_length, HLN.out])
        clear bel7 hB8 hc2 hX7 HO7 hO8
        go_wp2_with (first
          | ((with_reducible refine at_slot 38 ?_); (refine arm_append2 (o := ⟨some 38, _, _, _, _, _⟩) rfl _ _ rfl w.heap.size p7 (nl + 8) c7 ((s.size :: bytesOf s) ++ put u 8) HL7.out.symm rfl HOB.out p8 4 c8 (put n 4) rfl (put_length _ _).symm (fun h => by have := own_none HO8.out h; rw [put_length] at this; omega) HO8.out.bytes (by rw [HL7.out, put_length]; omega) bel8.size ?_); intro p9 c9 w9 hO9 hS9))
        have bel9 : Below w.heap.size w w9 := step_bel bel8 bel8.size HOB.out hS9
        rw [← HAC.out, ← HB.out] at hO9
        have HO9 := Lib.hid hO9
        have HLL : Hid (nl + 8 + 4 = (ansB a).length) := Lib.hid (by rw [HB.out, HAC.out, List.length_append, HL7.out, put_length])
        clear hO9 hS9 bel8 HOB
        go_ret2
        exact ⟨⟨p9, c9, by rw [HE.out, ← HLL.out]; rfl, HO9.out⟩, bel9⟩
  · have HB : Hid (ansB a = []) := Lib.hid (by unfold ansB; rw [if_neg hr])
    have HE : Hid (ansE a = 1) := Lib.hid (by unfold ansE; rw [if_neg hr])
    rw [decide_eq_false hr] at CR
    clear hr
    go_enter Tryd.func49, Tryd.ntmps49
    go_wp2_with (first
      | ((with_reducible refine at_slot 1 ?_); (refine arm_box (o := ⟨some 1, _, _, _, _, _⟩) rfl _ _ rfl (acs a) rfl ?_); intro X w1 Xe hw1 nw1)
      | ((with_reducible refine at_slot 6 ?_); (refine arm_load (o := ⟨some 6, _, _, _, _, _⟩) rfl _ _ rfl X 0 rfl (acs a) ((Has.refl _).range hw1) (sz_racc a) ?_)))
    refine (CR.out w1).mono ?_
    rintro e w2 ⟨rfl, hB2⟩
    have bel2 : Below w.heap.size w w2 := below_step nw1.below nw1.below.size hB2
    clear hw1 nw1 Xe hB2
    go_wp2_with fail
    go_ret2
    exact ⟨⟨none, 0, by rw [HE.out, HB.out]; rfl, by rw [HB.out]; exact own_nil _ _⟩, bel2⟩
theorem zA : Mem.Zero Tryd.prog 22 (u8s zh) := by unfold Mem.Zero; kernel_rfl
set_option maxRecDepth 100000 in
theorem szA {x : List Nat} (h : H32 x) : Sized Tryd.prog 22 (u8s x).length := by rw [u8s_length, h.len]; exact sz_arr
set_option maxHeartbeats 4000000 in
set_option maxRecDepth 100000 in
theorem rone_any (nm : ByteArray) (x : List Nat) (p : Option Addr) (cap : Nat) (w : World) (ht : x.length ≤ 700000) (hc : Came w p cap x) (hk : w.rangeAt 0 0 (u32s ks)) :
    Calls Tryd.prog 50 #[.string nm, .slice p x.length cap] w fun e w' => e = .returned (.agg (u8s (tagD nm [x])).toArray) ∧ Below w.heap.size w w' := by
  have HK := Lib.hid hk; have HC := Lib.hid hc; have HT := Lib.hid ht
  have hk1 : 0 < w.heap.size := range_lt hk (by simp [u32s, ks])
  have kd := tag_ok nm [x]
  obtain ⟨dd, hdd⟩ : ∃ dd, dd = tagD nm [x] := ⟨_, rfl⟩
  rw [← hdd] at kd ⊢
  have KD := Lib.hid kd
  have HDD : Hid (tagD nm [x] = dd) := Lib.hid hdd.symm
  clear hdd kd hk hc ht
  go_enter Tryd.func50, Tryd.ntmps50
  go_wp2_with (first
    | ((with_reducible refine at_slot 4 ?_); (refine arm_alloc (o := ⟨some 4, _, _, _, _, _⟩) rfl _ rfl (u8s zh) zA ?_); intro R w2 Re hw2 nw2)
    | ((with_reducible refine at_slot 7 ?_); (refine arm_one (o := ⟨some 7, _, _, _, _, _⟩) rfl _ rfl p x.length cap rfl ?_); intro b4 w4 hb4 hR4 hN4))
  have e2 := Re.out; have z2 := nw2.size
  have bel2 : Below w.heap.size w w2 := nw2.below
  have bel4 : Below w.heap.size w w4 := below_step bel2 bel2.size hN4.below
  have hwR : w.heap.size ≤ R := by omega
  have hP : Parts w4 (some ⟨b4, 0, none⟩) [x] := parts_one hR4 (HC.out.below bel4)
  have hk4 : w4.rangeAt 0 0 (u32s ks) := range_block HK.out (bel4.block _ hk1)
  have hr4 := hw2.old hN4.below
  clear e2 z2 hw2 nw2 Re bel2
  refine (refTag_any nm [x] (some ⟨b4, 0, none⟩) 1 w4 (by have := HT.out; simp only [Tg.total]; omega) hP hk4).mono ?_
  rintro e w5 ⟨rfl, hB5⟩
  have bel5 : Below w.heap.size w w5 := below_step bel4 bel4.size hB5
  have hr5 := hr4.old hB5
  rw [HDD.out]
  clear hP hk4 hr4 bel4 hb4 hR4 hN4 hB5
  go_wp2_with (first
    | ((with_reducible refine arm_store (o := ⟨none, _, _, _, _, _⟩) rfl _ _ _ rfl R 0 rfl (u8s dd) rfl _ _ (hr5) (fitH KD.out) (u8s_one _) (szA KD.out) ?_); intro w6 hw6 ow6 sw6))
  exact bodyPost_ret (v := .agg (u8s dd).toArray) (result_row (p := 4) (ty := 22) (u := 22) (by kernel_rfl) _ _ R (u8s dd) rfl (hw6.congr (allH KD.out)) (szA KD.out)) rfl ⟨rfl, below_only bel5 ow6 hwR bel5.size⟩
set_option maxHeartbeats 4000000 in
set_option maxRecDepth 100000 in
theorem rhash_any (a : Acct) (w : World) (k : a.Ok) (hk : w.rangeAt 0 0 (u32s ks)) :
    Calls Tryd.prog 33 #[.agg (acs a).toArray] w (HashPost w a) := by
  have hk1 : 0 < w.heap.size := range_lt hk (by simp [u32s, ks])
  have HKW : Hid (∀ w', Below w.heap.size w w' → w'.rangeAt 0 0 (u32s ks)) := Lib.hid fun w' hb => range_block hk (hb.block _ hk1)
  have CB := Lib.hid (fun w0 => rbytes_any a w0 k)
  have HL := Lib.hid (ansB_len a); have HLT := Lib.hid (ansB_lt a)
  clear k hk hk1
  by_cases hr : NRt a.nm
  · have HE : Hid (ansE a = 0) := Lib.hid (by unfold ansE; rw [if_pos hr])
    have HH : Hid (tagD nameA [ansB a] = ansH a) := Lib.hid (by unfold ansB ansH digA; rw [if_pos hr, if_pos hr])
    have KD := Lib.hid (ansH_ok a)
    clear hr
    obtain ⟨dd, hdd⟩ : ∃ dd, dd = ansH a := ⟨_, rfl⟩
    rw [← hdd] at HH KD
    have HD := Lib.hid hdd
    clear hdd
    have CB : Hid (∀ w0, Calls Tryd.prog 49 #[.agg (acs a).toArray] w0 fun e w' => (∃ q c, e = .returned (.tuple #[.slice q (ansB a).length c, .int .i64 0]) ∧ Bt.Own w' w0.heap.size q c (ansB a)) ∧ Below w0.heap.size w0 w') := Lib.hid fun w0 => (CB.out w0).mono fun e w' h => ⟨by obtain ⟨q, c, h1, h2⟩ := h.ex; rw [HE.out] at h1; exact ⟨q, c, h1, h2⟩, h.bel⟩
    obtain ⟨bb, hbb⟩ : ∃ bb, bb = ansB a := ⟨_, rfl⟩
    rw [← hbb] at CB HH HL HLT
    clear hbb
    go_enter Tryd.func33, Tryd.ntmps33
    go_wp2_with (first
      | ((with_reducible refine at_slot 1 ?_); (refine arm_box (o := ⟨some 1, _, _, _, _, _⟩) rfl _ _ rfl (acs a) rfl ?_); intro X w1 Xe hw1 nw1)
      | ((with_reducible refine at_slot 2 ?_); (refine arm_alloc (o := ⟨some 2, _, _, _, _, _⟩) rfl _ rfl (u8s zh) zH ?_); intro R w2 Re hw2 nw2)
      | ((with_reducible refine at_slot 7 ?_); (refine arm_load (o := ⟨some 7, _, _, _, _, _⟩) rfl _ _ rfl X 0 rfl (acs a) ((Has.refl _).range (hw1.old nw2.below)) (sz_racc a) ?_)))
    have e1 := Xe.out; have e2 := Re.out; have z1 := nw1.size; have z2 := nw2.size
    have bel : Below w.heap.size w w2 := below_step nw1.below (by omega) nw2.below
    have hwR : w.heap.size ≤ R := by omega
    refine (CB.out w2).mono ?_
    rintro e w3 ⟨⟨q, c, rfl, hO⟩, hB3⟩
    have bel3 : Below w.heap.size w w3 := below_step bel bel.size hB3
    have hr3 := hw2.old hB3
    have HO := Lib.hid hO
    clear e1 e2 z1 z2 hw1 hw2 nw1 nw2 Xe Re bel hB3 hO
    go_wp2_with fail
    refine (rone_any nameA bb q c w3 (by have := HL.out; omega) (HO.out.came HLT.out) (HKW.out w3 bel3)).mono ?_
    rintro e w5 ⟨rfl, hB5⟩
    have bel5 : Below w.heap.size w w5 := below_step bel3 bel3.size hB5
    have hr5 := hr3.old hB5
    rw [HH.out]
    clear hr3 bel3 hB5
    go_wp2_with (first
      | ((with_reducible refine arm_store (o := ⟨none, _, _, _, _, _⟩) rfl _ _ _ rfl R 0 rfl (u8s dd) rfl _ _ (hr5) (fitH KD.out) (u8s_one _) (szH KD.out) ?_); intro w6 hw6 ow6 sw6))
    refine bodyPost_ret (result_row2 (p := 2) (u := 3) (ty := 23) (t := 23) (by kernel_rfl) _ _ R (u8s dd) (.int .i64 0) rfl rfl (hw6.congr (allH KD.out)) (szH KD.out)) rfl ⟨by rw [HD.out, HE.out]; rfl, below_only bel5 ow6 hwR bel5.size⟩
  · have HE : Hid (ansE a = 1) := Lib.hid (by unfold ansE; rw [if_neg hr])
    have HD : Hid (ansH a = zh) := Lib.hid (by unfold ansH; rw [if_neg hr])
    have HB : Hid (ansB a = []) := Lib.hid (by unfold ansB; rw [if_neg hr])
    clear hr
    have CB : Hid (∀ w0, Calls Tryd.prog 49 #[.agg (acs a).toArray] w0 fun e w' => (∃ q c, e = .returned (.tuple #[.slice q 0 c, .int .i64 1]) ∧ Bt.Own w' w0.heap.size q c []) ∧ Below w0.heap.size w0 w') := Lib.hid fun w0 => (CB.out w0).mono fun e w' h => ⟨by obtain ⟨q, c, h1, h2⟩ := h.ex; rw [HE.out, HB.out] at h1; rw [HB.out] at h2; exact ⟨q, c, h1, h2⟩, h.bel⟩
    have BZ : Hid (Tryd.prog.built 23 [] = some (u8s zh).toArray) := Lib.hid (by kernel_rfl)
    obtain ⟨d, hd⟩ : ∃ d, d = zh := ⟨_, rfl⟩
    have KD : Hid (H32 d) := Lib.hid (by rw [hd]; exact zh_ok)
    have HZ := Lib.hid hd
    rw [← hd] at BZ HD
    clear hd
    go_enter Tryd.func33, Tryd.ntmps33
    go_wp2_with (first
      | ((with_reducible refine at_slot 1 ?_); (refine arm_box (o := ⟨some 1, _, _, _, _, _⟩) rfl _ _ rfl (acs a) rfl ?_); intro X w1 Xe hw1 nw1)
      | ((with_reducible refine at_slot 2 ?_); (refine arm_alloc (o := ⟨some 2, _, _, _, _, _⟩) rfl _ rfl (u8s zh) zH ?_); intro R w2 Re hw2 nw2)
      | ((with_reducible refine at_slot 7 ?_); (refine arm_load (o := ⟨some 7, _, _, _, _, _⟩) rfl _ _ rfl X 0 rfl (acs a) ((Has.refl _).range (hw1.old nw2.below)) (sz_racc a) ?_)))
    have e1 := Xe.out; have e2 := Re.out; have z1 := nw1.size; have z2 := nw2.size
    have bel : Below w.heap.size w w2 := below_step nw1.below (by omega) nw2.below
    have hwR : w.heap.size ≤ R := by omega
    refine (CB.out w2).mono ?_
    rintro e w3 ⟨⟨q, c, rfl, hO⟩, hB3⟩
    have bel3 : Below w.heap.size w w3 := below_step bel bel.size hB3
    have hr3 := hw2.old hB3
    have HO := Lib.hid hO
    clear e1 e2 z1 z2 hw1 hw2 nw1 nw2 Xe Re bel hB3 hO
    go_wp2_with (first
      | ((with_reducible refine at_slot 13 ?_); (refine arm_build (o := ⟨some 13, _, _, _, _, _⟩) rfl _ _ rfl (u8s d) (by simp only [List.map_toArray, List.map_nil]; exact BZ.out) ?_))
      | ((with_reducible refine arm_store (o := ⟨none, _, _, _, _, _⟩) rfl _ _ _ rfl R 0 rfl (u8s d) rfl _ _ (hr3) (fitH KD.out) (u8s_one _) (szH KD.out) ?_); intro w6 hw6 ow6 sw6))
    refine bodyPost_ret (result_row2 (p := 2) (u := 3) (ty := 23) (t := 23) (by kernel_rfl) _ _ R (u8s d) (.int .i64 1) rfl rfl (hw6.congr (allH KD.out)) (szH KD.out)) rfl ⟨by rw [HD.out, HE.out]; rfl, below_only bel3 ow6 hwR bel3.size⟩
end Go.Proofs.YtaihhbiocolhcaaDoor.Ac

/-
  The contract of the document's Read of layer 14. Over this seat's translation.
-/
namespace Go.Proofs.YtaihhbiocolhcaaDoor.Ac
open Go.ChangeShapes Go.WideShapes Go.ChangeAt Go.RowKit Go.Proofs.YtaihhbiocolhcaaDoor.Mem Go.Proofs.YtaihhbiocolhcaaDoor.Bt Go.Proofs.YtaihhbiocolhcaaDoor.Wi Go.Proofs.YtaihhbiocolhcaaDoor.Sha
open Go.Proofs.YtaihhbiocolhcaaDoor.Tg (bytesOf bytesOf_length bytesOf_lt bytesOf_inj Rd Rd.below Parts parts_one arm_one tagD tagD_len tagOf_any refTag_any)
open Go.Proofs.YtaihhbiocolhcaaDoor.Ep (H32 zh zh_ok Has h_len szH zH fitH allH)
set_option linter.unusedVariables false
set_option linter.unusedSimpArgs false

end Go.Proofs.YtaihhbiocolhcaaDoor.Ac
