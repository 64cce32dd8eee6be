/-
  The contracts of package account's Bytes, Hash and None. Over this seat's translation.
-/
import Derived.Test.YteomndfalonncaaDoorAccRight
import Derived.Test.YteomndfalonncaaDoorWireAll
import Derived.Test.YteomndfalonncaaDoorWireRefAll
namespace Go.Proofs.YteomndfalonncaaDoor.Ac
open Go.ChangeShapes Go.WideShapes Go.ChangeAt Go.RowKit Go.Proofs.YteomndfalonncaaDoor.Mem Go.Proofs.YteomndfalonncaaDoor.Bt Go.Proofs.YteomndfalonncaaDoor.Wi Go.Proofs.YteomndfalonncaaDoor.Sha
open Go.Proofs.YteomndfalonncaaDoor.Tg (bytesOf bytesOf_length bytesOf_lt bytesOf_inj Rd Rd.below Parts parts_one arm_one tagD tagD_len tagOf_any refTag_any)
open Go.Proofs.YteomndfalonncaaDoor.Ep (H32 zh zh_ok Has h_len szH zH fitH allH)
set_option linter.unusedVariables false
set_option linter.unusedSimpArgs false

/-- What Bytes answers: the bytes, what goes wrong. -/
def ansB (a : Acct) : List Nat := if NRt a.nm then accB a else []
def ansE (a : Acct) : Nat := if NRt a.nm then 0 else 1
theorem ansB_len (a : Acct) : (ansB a).length ≤ 21 := by
  unfold ansB
  split
  · rename_i h
    have := h.2.1
    rw [accB_len]; omega
  · simp
theorem ansB_lt (a : Acct) : AllLt 256 (ansB a) := by
  unfold ansB
  split
  · rename_i h
    exact accB_lt (by have := h.2.1; omega)
  · intro x hx; cases hx
structure BytesPost (w : World) (a : Acct) (e : Ending) (w' : World) : Prop where
  ex : ∃ q c, e = .returned (.tuple #[.slice q (ansB a).length c, .int .i64 (ansE a : Int)]) ∧ Bt.Own w' w.heap.size q c (ansB a)
  bel : Below w.heap.size w w'
theorem wText_at (ys : List Nat) (n : Nat) (hn : n = ys.length) (y : Option Addr) (yc : Nat) (base W : Nat) (p : Option Addr) (cap : Nat) (bs : List Nat) (w : World) (h : Wr w base W p cap bs) (hb : base ≤ w.heap.size) (hl : bs.length ≤ 900000)
    (hy : Rd w y ys) (hyn : y = none → ys.length = 0 ∧ yc = 0) (hyb : ys ≠ [] → Sep p y) (hm : ys.length ≤ maxLen) :
    Calls Tryd.prog 17 #[.pointer (some ⟨W, 0, none⟩), .slice y n yc] w (WrPost w base W p (.bool (decide (ys.length ≤ 255))) (bs ++ txt ys)) := by
  subst hn
  exact wText_any ys y yc base W p cap bs w h hb hl hy hyn hyb hm
theorem accB_txt {a : Acct} (h : a.nm.size ≤ 8) : [] ++ txt (bytesOf a.nm) ++ put a.bal 8 ++ put a.non 4 = accB a := by
  unfold accB txt
  rw [if_pos (by rw [bytesOf_length]; omega), List.nil_append, bytesOf_length]
set_option maxHeartbeats 4000000 in
set_option maxRecDepth 100000 in
theorem abytes_any (a : Acct) (w : World) (k : a.Ok) :
    Calls Tryd.prog 6 #[.agg (acs a).toArray] w (BytesPost w a) := by
  have KB := Lib.hid k
  have CR := Lib.hid (fun w0 => aright_any a w0)
  clear k
  by_cases hr : NRt a.nm
  · have HR := Lib.hid hr
    have HB : Hid (ansB a = accB a) := Lib.hid (by unfold ansB; rw [if_pos hr])
    have HE : Hid (ansE a = 0) := Lib.hid (by unfold ansE; rw [if_pos hr])
    rw [decide_eq_true hr] at CR
    have c0 : (acs a)[0]? = some (.string a.nm) := rfl
    have c1 : (acs a)[1]? = some (.int .u64 (a.bal : Int)) := rfl
    have c2 : (acs a)[2]? = some (.int .u32 (a.non : Int)) := rfl
    have C0 := Lib.hid c0; have C1 := Lib.hid c1; have C2 := Lib.hid c2
    have hs8 := hr.2.1
    have HT := Lib.hid (accB_txt hs8)
    have HTL := Lib.hid (txt_len (bytesOf a.nm))
    obtain ⟨s, hs⟩ : ∃ s, s = a.nm := ⟨_, rfl⟩
    rw [← hs] at C0 HT hs8 HTL
    have KBAL := Lib.hid KB.out.bal; have KNON := Lib.hid KB.out.non
    obtain ⟨u, hu⟩ : ∃ u, u = a.bal := ⟨_, rfl⟩
    obtain ⟨n, hn⟩ : ∃ n, n = a.non := ⟨_, rfl⟩
    rw [← hu] at C1 HT KBAL
    rw [← hn] at C2 HT KNON
    have HSL := Lib.hid (show s.size = (bytesOf s).length from (bytesOf_length s).symm)
    clear hr hs hu hn c0 c1 c2
    go_enter Tryd.func6, Tryd.ntmps6
    go_wp2_with (first
      | ((with_reducible refine at_slot 1 ?_); (refine arm_box (o := ⟨some 1, _, _, _, _, _⟩) rfl _ _ rfl (acs a) rfl ?_); intro X w1 Xe hw1 nw1)
      | ((with_reducible refine at_slot 5 ?_); (refine arm_load (o := ⟨some 5, _, _, _, _, _⟩) rfl _ _ rfl X 0 rfl (acs a) ((Has.refl _).range hw1) (sz_acc a) ?_)))
    refine (CR.out w1).mono ?_
    rintro e w2 ⟨rfl, hB2⟩
    have hX2 := hw1.old hB2
    have bel2 : Below w.heap.size w w2 := below_step nw1.below nw1.below.size hB2
    have hwX : w.heap.size ≤ X := by have := Xe.out; omega
    clear hw1 nw1 Xe hB2
    go_wp2_with (first
      | ((with_reducible refine at_slot 4 ?_); (refine arm_alloc (o := ⟨some 4, _, _, _, _, _⟩) rfl _ rfl [.slice none 0 0] zero_wr ?_); intro W w3 We hw3 nw3; have hc0 := (hX2.old nw3.below).cell C0.out)
      | ((with_reducible refine at_slot 10 ?_); (refine arm_strBytes (o := ⟨some 10, _, _, _, _, _⟩) rfl _ _ 5 _ rfl s rfl (by kernel_rfl) (by kernel_rfl) (by kernel_rfl) ?_); intro b bc w4 be hb4 nw4))
    have eW := We.out; have eb := be.out; have z3 := nw3.size; have z4 := nw4.size; have lX := hX2.lt; have z2 := bel2.size
    have hX4 : Row w4 X 25 (acs a) := (hX2.old nw3.below).old nw4.below
    have bel4 : Below w.heap.size w w4 := below_step (below_step bel2 z2 nw3.below) (by omega) nw4.below
    have hWr4 : Wr w4 w.heap.size W none 0 [] := (wr_new hw3 (by omega)).old nw4.below
    have HXW := Lib.hid (show X ≠ W by omega)
    have HRD : Hid (Rd w4 (some ⟨b, 0, none⟩) (bytesOf s)) := Lib.hid ⟨fun _ => ⟨b, 0, rfl, hb4⟩⟩
    clear hc0 hX2 hw3 nw3 nw4 hb4 eW eb z3 z4 lX We be bel2 z2
    refine (wText_at (bytesOf s) s.size HSL.out (some ⟨b, 0, none⟩) bc w.heap.size W none 0 [] w4 hWr4 bel4.size (by simp) HRD.out (fun h => by cases h) (fun _ => sep_none' _) (by rw [← HSL.out]; unfold maxLen; omega)).mono ?_
    rintro e w5 ⟨rfl, q5, c5, hW5, hS5⟩
    have hX5 : Row w5 X 25 (acs a) := row_step hX4 hWr4 hS5 HXW.out
    have bel5 : Below w.heap.size w w5 := bel4.trans (hWr4.below hS5 bel4.size)
    have hc1 := hX5.cell C1.out
    have HW5 := Lib.hid hW5
    clear hX4 hWr4 hS5 bel4 hW5 HRD
    go_wp2_with fail
    refine (wLong_any u w.heap.size W q5 c5 _ w5 HW5.out bel5.size (by have := HTL.out; rw [List.nil_append]; omega) KBAL.out).mono ?_
    rintro e w6 ⟨rfl, q6, c6, hW6, hS6⟩
    have hX6 : Row w6 X 25 (acs a) := row_step hX5 HW5.out hS6 HXW.out
    have bel6 : Below w.heap.size w w6 := bel5.trans (HW5.out.below hS6 bel5.size)
    have hc2 := hX6.cell C2.out
    have HW6 := Lib.hid hW6
    clear hX5 hS6 bel5 hW6 hc1 HW5
    go_wp2_with fail
    refine (wNum_any n w.heap.size W q6 c6 _ w6 HW6.out bel6.size (by have := HTL.out; rw [List.nil_append, List.length_append, put_length]; omega) KNON.out).mono ?_
    rintro e w7 ⟨rfl, q7, c7, hW7, hS7⟩
    have bel7 : Below w.heap.size w w7 := bel6.trans (HW6.out.below hS7 bel6.size)
    rw [HT.out] at hW7
    have HW7 := Lib.hid hW7
    clear hX6 hS7 bel6 hW7 hc2 HW6
    have HAL : Hid ((accB a).length ≤ 1000000) := Lib.hid (by rw [← HB.out]; have := ansB_len a; omega)
    have HB2 := HB.out
    rw [HB2.symm] at HW7 HAL
    have CWB := Lib.hid (wBytes_any w.heap.size W q7 c7 _ w7 HW7.out HAL.out)
    generalize hbb : ansB a = bb at CWB ⊢
    have HBB := Lib.hid hbb
    clear hbb HAL HB2
    go_wp2_with fail
    refine CWB.out.mono ?_
    rintro e w8 ⟨⟨q, c, rfl, hO⟩, hB8⟩
    have bel8 : Below w.heap.size w w8 := below_step bel7 bel7.size hB8
    have HO := Lib.hid (own_mono hO bel7.size)
    clear hO hB8 bel7
    go_wp2_with fail
    go_ret2
    exact ⟨⟨q, c, by rw [HE.out, HBB.out]; rfl, by rw [HBB.out]; exact HO.out⟩, bel8⟩
  · have HB : Hid (ansB a = []) := Lib.hid (by unfold ansB; rw [if_neg hr])
    have HE : Hid (ansE a = 1) := Lib.hid (by unfold ansE; rw [if_neg hr])
    rw [decide_eq_false hr] at CR
    clear hr
    go_enter Tryd.func6, Tryd.ntmps6
    go_wp2_with (first
      | ((with_reducible refine at_slot 1 ?_); (refine arm_box (o := ⟨some 1, _, _, _, _, _⟩) rfl _ _ rfl (acs a) rfl ?_); intro X w1 Xe hw1 nw1)
      | ((with_reducible refine at_slot 5 ?_); (refine arm_load (o := ⟨some 5, _, _, _, _, _⟩) rfl _ _ rfl X 0 rfl (acs a) ((Has.refl _).range hw1) (sz_acc a) ?_)))
    refine (CR.out w1).mono ?_
    rintro e w2 ⟨rfl, hB2⟩
    have bel2 : Below w.heap.size w w2 := below_step nw1.below nw1.below.size hB2
    clear hw1 nw1 Xe hB2
    go_wp2_with fail
    go_ret2
    exact ⟨⟨none, 0, by rw [HE.out, HB.out]; rfl, by rw [HB.out]; exact own_nil _ _⟩, bel2⟩
/-- The name 'account'. -/
def nameA : ByteArray := ⟨#[97, 99, 99, 111, 117, 110, 116]⟩
/-- The name 'empty'. -/
def nameE : ByteArray := ⟨#[101, 109, 112, 116, 121]⟩
/-- An account's digest; the digest of no account. -/
def digA (a : Acct) : List Nat := tagD nameA [accB a]
def digE : List Nat := tagD nameE []
theorem tag_ok (s : ByteArray) (l : List (List Nat)) : H32 (tagD s l) := ⟨tagD_len _ _, Ep.tagD_lt _ _⟩
theorem digA_ok (a : Acct) : H32 (digA a) := tag_ok _ _
theorem digE_ok : H32 digE := tag_ok _ _
def ansH (a : Acct) : List Nat := if NRt a.nm then digA a else zh
theorem ansH_ok (a : Acct) : H32 (ansH a) := by
  unfold ansH
  split
  · exact digA_ok a
  · exact zh_ok
structure HashPost (w : World) (a : Acct) (e : Ending) (w' : World) : Prop where
  ret : e = .returned (.tuple #[.agg (u8s (ansH a)).toArray, .int .i64 (ansE a : Int)])
  bel : Below w.heap.size w w'
set_option maxHeartbeats 4000000 in
set_option maxRecDepth 100000 in
theorem ahash_any (a : Acct) (w : World) (k : a.Ok) (hk : w.rangeAt 1 0 (u32s ks)) :
    Calls Tryd.prog 8 #[.agg (acs a).toArray] w (HashPost w a) := by
  have hk1 : 1 < w.heap.size := range_lt hk (by simp [u32s, ks])
  have HKW : Hid (∀ w', Below w.heap.size w w' → w'.rangeAt 1 0 (u32s ks)) := Lib.hid fun w' hb => range_block hk (hb.block _ hk1)
  have CB := Lib.hid (fun w0 => abytes_any a w0 k)
  have HL := Lib.hid (ansB_len a); have HLT := Lib.hid (ansB_lt a)
  clear k hk hk1
  by_cases hr : NRt a.nm
  · have HE : Hid (ansE a = 0) := Lib.hid (by unfold ansE; rw [if_pos hr])
    have HH : Hid (tagD nameA [ansB a] = ansH a) := Lib.hid (by unfold ansB ansH digA; rw [if_pos hr, if_pos hr])
    have KD := Lib.hid (ansH_ok a)
    clear hr
    obtain ⟨dd, hdd⟩ : ∃ dd, dd = ansH a := ⟨_, rfl⟩
    rw [← hdd] at HH KD
    have HD := Lib.hid hdd
    clear hdd
    have CB : Hid (∀ w0, Calls Tryd.prog 6 #[.agg (acs a).toArray] w0 fun e w' => (∃ q c, e = .returned (.tuple #[.slice q (ansB a).length c, .int .i64 0]) ∧ Bt.Own w' w0.heap.size q c (ansB a)) ∧ Below w0.heap.size w0 w') := Lib.hid fun w0 => (CB.out w0).mono fun e w' h => ⟨by obtain ⟨q, c, h1, h2⟩ := h.ex; rw [HE.out] at h1; exact ⟨q, c, h1, h2⟩, h.bel⟩
    obtain ⟨bb, hbb⟩ : ∃ bb, bb = ansB a := ⟨_, rfl⟩
    rw [← hbb] at CB HH HL HLT
    clear hbb
    go_enter Tryd.func8, Tryd.ntmps8
    go_wp2_with (first
      | ((with_reducible refine at_slot 1 ?_); (refine arm_box (o := ⟨some 1, _, _, _, _, _⟩) rfl _ _ rfl (acs a) rfl ?_); intro X w1 Xe hw1 nw1)
      | ((with_reducible refine at_slot 2 ?_); (refine arm_alloc (o := ⟨some 2, _, _, _, _, _⟩) rfl _ rfl (u8s zh) zH ?_); intro R w2 Re hw2 nw2)
      | ((with_reducible refine at_slot 7 ?_); (refine arm_load (o := ⟨some 7, _, _, _, _, _⟩) rfl _ _ rfl X 0 rfl (acs a) ((Has.refl _).range (hw1.old nw2.below)) (sz_acc a) ?_)))
    have e1 := Xe.out; have e2 := Re.out; have z1 := nw1.size; have z2 := nw2.size
    have bel : Below w.heap.size w w2 := below_step nw1.below (by omega) nw2.below
    have hwR : w.heap.size ≤ R := by omega
    refine (CB.out w2).mono ?_
    rintro e w3 ⟨⟨q, c, rfl, hO⟩, hB3⟩
    have bel3 : Below w.heap.size w w3 := below_step bel bel.size hB3
    have hr3 := hw2.old hB3
    have HO := Lib.hid hO
    clear e1 e2 z1 z2 hw1 hw2 nw1 nw2 Xe Re bel hB3 hO
    go_wp2_with (first
      | ((with_reducible refine at_slot 16 ?_); (refine arm_one (o := ⟨some 16, _, _, _, _, _⟩) rfl _ rfl q bb.length c rfl ?_); intro b4 w4 hb4 hR4 hN4))
    have bel4 : Below w.heap.size w w4 := below_step bel3 bel3.size hN4.below
    have hP : Parts w4 (some ⟨b4, 0, none⟩) [bb] := parts_one hR4 ((HO.out.came HLT.out).below hN4.below)
    have hr4 := hr3.old hN4.below
    refine (tagOf_any nameA [bb] (some ⟨b4, 0, none⟩) 1 w4 (by have := HL.out; simp only [Tg.total]; omega) hP (HKW.out w4 bel4)).mono ?_
    rintro e w5 ⟨rfl, hB5⟩
    have bel5 : Below w.heap.size w w5 := below_step bel4 bel4.size hB5
    have hr5 := hr4.old hB5
    rw [HH.out]
    clear hP hr4 hr3 bel3 bel4 hb4 hR4 hN4 hB5
    go_wp2_with (first
      | ((with_reducible refine arm_store (o := ⟨none, _, _, _, _, _⟩) rfl _ _ _ rfl R 0 rfl (u8s dd) rfl _ _ (hr5) (fitH KD.out) (u8s_one _) (szH KD.out) ?_); intro w6 hw6 ow6 sw6))
    refine bodyPost_ret (result_row2 (p := 2) (u := 3) (ty := 34) (t := 34) (by kernel_rfl) _ _ R (u8s dd) (.int .i64 0) rfl rfl (hw6.congr (allH KD.out)) (szH KD.out)) rfl ⟨by rw [HD.out, HE.out]; rfl, below_only bel5 ow6 hwR bel5.size⟩
  · have HE : Hid (ansE a = 1) := Lib.hid (by unfold ansE; rw [if_neg hr])
    have HD : Hid (ansH a = zh) := Lib.hid (by unfold ansH; rw [if_neg hr])
    have HB : Hid (ansB a = []) := Lib.hid (by unfold ansB; rw [if_neg hr])
    clear hr
    have CB : Hid (∀ w0, Calls Tryd.prog 6 #[.agg (acs a).toArray] w0 fun e w' => (∃ q c, e = .returned (.tuple #[.slice q 0 c, .int .i64 1]) ∧ Bt.Own w' w0.heap.size q c []) ∧ Below w0.heap.size w0 w') := Lib.hid fun w0 => (CB.out w0).mono fun e w' h => ⟨by obtain ⟨q, c, h1, h2⟩ := h.ex; rw [HE.out, HB.out] at h1; rw [HB.out] at h2; exact ⟨q, c, h1, h2⟩, h.bel⟩
    have BZ : Hid (Tryd.prog.built 34 [] = some (u8s zh).toArray) := Lib.hid (by kernel_rfl)
    obtain ⟨d, hd⟩ : ∃ d, d = zh := ⟨_, rfl⟩
    have KD : Hid (H32 d) := Lib.hid (by rw [hd]; exact zh_ok)
    have HZ := Lib.hid hd
    rw [← hd] at BZ HD
    clear hd
    go_enter Tryd.func8, Tryd.ntmps8
    go_wp2_with (first
      | ((with_reducible refine at_slot 1 ?_); (refine arm_box (o := ⟨some 1, _, _, _, _, _⟩) rfl _ _ rfl (acs a) rfl ?_); intro X w1 Xe hw1 nw1)
      | ((with_reducible refine at_slot 2 ?_); (refine arm_alloc (o := ⟨some 2, _, _, _, _, _⟩) rfl _ rfl (u8s zh) zH ?_); intro R w2 Re hw2 nw2)
      | ((with_reducible refine at_slot 7 ?_); (refine arm_load (o := ⟨some 7, _, _, _, _, _⟩) rfl _ _ rfl X 0 rfl (acs a) ((Has.refl _).range (hw1.old nw2.below)) (sz_acc a) ?_)))
    have e1 := Xe.out; have e2 := Re.out; have z1 := nw1.size; have z2 := nw2.size
    have bel : Below w.heap.size w w2 := below_step nw1.below (by omega) nw2.below
    have hwR : w.heap.size ≤ R := by omega
    refine (CB.out w2).mono ?_
    rintro e w3 ⟨⟨q, c, rfl, hO⟩, hB3⟩
    have bel3 : Below w.heap.size w w3 := below_step bel bel.size hB3
    have hr3 := hw2.old hB3
    have HO := Lib.hid hO
    clear e1 e2 z1 z2 hw1 hw2 nw1 nw2 Xe Re bel hB3 hO
    go_wp2_with (first
      | ((with_reducible refine at_slot 13 ?_); (refine arm_build (o := ⟨some 13, _, _, _, _, _⟩) rfl _ _ rfl (u8s d) (by simp only [List.map_toArray, List.map_nil]; exact BZ.out) ?_))
      | ((with_reducible refine arm_store (o := ⟨none, _, _, _, _, _⟩) rfl _ _ _ rfl R 0 rfl (u8s d) rfl _ _ (hr3) (fitH KD.out) (u8s_one _) (szH KD.out) ?_); intro w6 hw6 ow6 sw6))
    refine bodyPost_ret (result_row2 (p := 2) (u := 3) (ty := 34) (t := 34) (by kernel_rfl) _ _ R (u8s d) (.int .i64 1) rfl rfl (hw6.congr (allH KD.out)) (szH KD.out)) rfl ⟨by rw [HD.out, HE.out]; rfl, below_only bel3 ow6 hwR bel3.size⟩
set_option maxHeartbeats 4000000 in
set_option maxRecDepth 100000 in
theorem anone_any (w : World) (hk : w.rangeAt 1 0 (u32s ks)) :
    Calls Tryd.prog 15 #[] w fun e w' => e = .returned (.agg (u8s digE).toArray) ∧ Below w.heap.size w w' := by
  have hk1 : 1 < w.heap.size := range_lt hk (by simp [u32s, ks])
  have HKW : Hid (∀ w', Below w.heap.size w w' → w'.rangeAt 1 0 (u32s ks)) := Lib.hid fun w' hb => range_block hk (hb.block _ hk1)
  have HH : Hid (tagD nameE [] = digE) := Lib.hid rfl
  have KD := Lib.hid digE_ok
  clear hk hk1
  generalize digE = dd at HH KD ⊢
  go_enter Tryd.func15, Tryd.ntmps15
  go_wp2_with (first
    | ((with_reducible refine at_slot 0 ?_); (refine arm_alloc (o := ⟨some 0, _, _, _, _, _⟩) rfl _ rfl (u8s zh) zH ?_); intro R w2 Re hw2 nw2))
  have hwR : w.heap.size ≤ R := by have := Re.out; omega
  refine (tagOf_any nameE [] none 0 w2 (by simp [Tg.total]) ⟨fun h => absurd h (by simp)⟩ (HKW.out w2 nw2.below)).mono ?_
  rintro e w5 ⟨rfl, hB5⟩
  have bel5 : Below w.heap.size w w5 := below_step nw2.below nw2.below.size hB5
  have hr5 := hw2.old hB5
  rw [HH.out]
  clear hw2 nw2 Re hB5
  go_wp2_with (first
    | ((with_reducible refine arm_store (o := ⟨none, _, _, _, _, _⟩) rfl _ _ _ rfl R 0 rfl (u8s dd) rfl _ _ (hr5) (fitH KD.out) (u8s_one _) (szH KD.out) ?_); intro w6 hw6 ow6 sw6))
  exact bodyPost_ret (v := .agg (u8s dd).toArray) (result_row (p := 0) (ty := 34) (u := 34) (by kernel_rfl) _ _ R (u8s dd) rfl (hw6.congr (allH KD.out)) (szH KD.out)) rfl ⟨rfl, below_only bel5 ow6 hwR bel5.size⟩
end Go.Proofs.YteomndfalonncaaDoor.Ac
