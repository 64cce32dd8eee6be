/-
  The contract of the document's Read of layer 14. Over this seat's translation.
-/
import Derived.Test.YteomndfalonncaaDoorAccRef
import Derived.Test.YteomndfalonncaaDoorAccRead
import Derived.Test.YteomndfalonncaaDoorWireRefAll
namespace Go.Proofs.YteomndfalonncaaDoor.Ac
open Go.ChangeShapes Go.WideShapes Go.ChangeAt Go.RowKit Go.Proofs.YteomndfalonncaaDoor.Mem Go.Proofs.YteomndfalonncaaDoor.Bt Go.Proofs.YteomndfalonncaaDoor.Wi Go.Proofs.YteomndfalonncaaDoor.Sha
open Go.Proofs.YteomndfalonncaaDoor.Tg (bytesOf bytesOf_length bytesOf_lt bytesOf_inj Rd Rd.below Parts parts_one arm_one tagD tagD_len tagOf_any refTag_any)
open Go.Proofs.YteomndfalonncaaDoor.Ep (H32 zh zh_ok Has h_len szH zH fitH allH)
set_option linter.unusedVariables false
set_option linter.unusedSimpArgs false

theorem built_rd (p : Option Addr) (n c : Nat) : Tryd.prog.built 65 [(0, .slice p n c)] = some (fcells p n c 0 0).toArray := by kernel_rfl
set_option maxHeartbeats 4000000 in
set_option maxRecDepth 100000 in
theorem rread_any (b : List Nat) (p : Option Addr) (cap : Nat) (w : World) (hp : Rd w p b) (hcp : b.length ≤ cap) (hn : p = none → cap = 0) (hl : b.length ≤ 1000) (hlt : AllLt 256 b) :
    Calls Tryd.prog 11 #[.slice p b.length cap] w (ReadPost w b) := by
  have HP := Lib.hid hp; have HCP := Lib.hid hcp; have HN := Lib.hid hn; have HLB := Lib.hid hl; have HLTB := Lib.hid hlt
  have hq := q_left b
  have HLT := Lib.hid (q_lt hlt).1
  have HLOW : Hid (b ≠ [] → ∀ k, blk p = some k → k < w.heap.size) := Lib.hid fun hne k hk => by
    obtain ⟨g, o, e, hr⟩ := hp.at_ hne
    rw [e] at hk
    have e2 : g = k := Option.some.inj hk
    subst e2
    exact range_lt hr (by intro h; apply hne; simpa [u8s] using h)
  have CT : Hid (∀ R d w0, RfAt w0 R d (b, 0) → Calls Tryd.prog 29 #[.pointer (some ⟨R, 0, none⟩), .int .i64 8] w0 (RfText w0 R d (q1 b).1 (q1 b).2)) := Lib.hid fun R d w0 h => fText_any 8 R d (b, 0) w0 h (by omega)
  have CL : Hid (∀ R d w0, RfAt w0 R d (q1 b).2 → Calls Tryd.prog 30 #[.pointer (some ⟨R, 0, none⟩), .int .i64 8] w0 (RfPost w0 R d (.int .u64 ((q2 b).1 : Int)) (q2 b).2)) := Lib.hid fun R d w0 h => fNumber_any 8 R d (q1 b).2 w0 h (by omega)
  have CM : Hid (∀ R d w0, RfAt w0 R d (q2 b).2 → Calls Tryd.prog 30 #[.pointer (some ⟨R, 0, none⟩), .int .i64 4] w0 (RfPost w0 R d (.int .u64 ((q3 b).1 : Int)) (q3 b).2)) := Lib.hid fun R d w0 h => fNumber_any 4 R d (q2 b).2 w0 h (by omega)
  have CE : Hid (∀ R d w0, RfAt w0 R d (q3 b).2 → Calls Tryd.prog 31 #[.pointer (some ⟨R, 0, none⟩)] w0 fun e w' => e = .returned (.int .i64 (eR b : Int)) ∧ Below w0.heap.size w0 w') := Lib.hid fun R d w0 h => fEnd_any R d (q3 b).2 w0 h
  have HA : Hid (accR b = ⟨strOf (q1 b).1, (q2 b).1, (q3 b).1⟩) := Lib.hid rfl
  have HMN := Lib.hid (accR_ok hlt).non
  have CR := Lib.hid (fun w0 => rright_any (accR b) w0)
  have HD : Hid ((eR b ≠ 0 → rdA b = (za, eR b)) ∧ (eR b = 0 → ¬ NRt (accR b).nm → rdA b = (za, 2)) ∧ (eR b = 0 → NRt (accR b).nm → rdA b = (accR b, 0))) := Lib.hid ⟨rdA_bad, rdA_form, rdA_good⟩
  have HMN2 : Hid ((q3 b).1 < 4294967296) := Lib.hid HMN.out
  obtain ⟨tb, htb⟩ : ∃ x, x = (q1 b).1 := ⟨_, rfl⟩
  obtain ⟨s1, hs1⟩ : ∃ x, x = (q1 b).2 := ⟨_, rfl⟩
  obtain ⟨u, hu⟩ : ∃ x, x = (q2 b).1 := ⟨_, rfl⟩
  obtain ⟨s2, hs2⟩ : ∃ x, x = (q2 b).2 := ⟨_, rfl⟩
  obtain ⟨m, hm⟩ : ∃ x, x = (q3 b).1 := ⟨_, rfl⟩
  obtain ⟨s3, hs3⟩ : ∃ x, x = (q3 b).2 := ⟨_, rfl⟩
  obtain ⟨a, ha⟩ : ∃ x, x = accR b := ⟨_, rfl⟩
  obtain ⟨ee, hee⟩ : ∃ x, x = eR b := ⟨_, rfl⟩
  rw [← htb, ← hs1] at CT
  rw [← hs1, ← hu, ← hs2] at CL
  rw [← hs2, ← hm, ← hs3] at CM
  rw [← hs3, ← hee] at CE
  rw [← ha, ← htb, ← hu, ← hm] at HA
  rw [← ha] at CR
  rw [← ha, ← hee] at HD
  rw [← htb] at HLT
  rw [← hm] at HMN2
  have hmm : m < 4294967296 := HMN2.out
  obtain ⟨st, hst⟩ : ∃ x, x = strOf tb := ⟨_, rfl⟩
  rw [← hst] at HA
  have HST := Lib.hid hst.symm
  clear hp hn hl hlt hq htb hs1 hu hs2 hm hs3 ha hee hcp HMN hst
  go_enter Tryd.func11, Tryd.ntmps11
  go_wp2_with (first
    | ((with_reducible refine at_slot 2 ?_); (refine arm_alloc (o := ⟨some 2, _, _, _, _, _⟩) rfl _ rfl (acs za) z_racc ?_); intro Z w1 Ze hw1 nw1)
    | ((with_reducible refine at_slot 7 ?_); (refine arm_build (o := ⟨some 7, _, _, _, _, _⟩) rfl _ _ rfl (fcells p b.length cap 0 0) (by simp only [List.map_toArray, List.map_cons, List.map_nil]; exact built_rd _ _ _) ?_))
    | ((with_reducible refine at_slot 8 ?_); (refine arm_box (o := ⟨some 8, _, _, _, _, _⟩) rfl _ _ rfl (fcells p b.length cap 0 0) rfl ?_); intro R w2 Re hw2 nw2)
    | ((with_reducible refine at_slot 9 ?_); (refine arm_build (o := ⟨some 9, _, _, _, _, _⟩) rfl _ _ rfl (acs za) (by simp only [List.map_toArray, List.map_nil]; exact built_rza) ?_))
    | ((with_reducible refine at_slot 5 ?_); (refine arm_alloc (o := ⟨some 5, _, _, _, _, _⟩) rfl _ rfl (acs za) z_racc ?_); intro N w3 Ne hw3 nw3)
    | ((with_reducible refine arm_store (o := ⟨none, _, _, _, _, _⟩) rfl _ _ _ rfl N 0 rfl (acs za) rfl _ _ (hw3) (fitA za) (acs_one za) (sz_racc za) ?_); intro w4 hw4 ow4 sw4))
  have eZ := Ze.out; have eR := Re.out; have eN := Ne.out; have z1 := nw1.size; have z2 := nw2.size; have z3 := nw3.size; have z4 := sw4.out
  have hwZ : w.heap.size ≤ Z := by omega
  have hwR : w.heap.size ≤ R := by omega
  have hwN : w.heap.size ≤ N := by omega
  have nRZ : R ≠ Z := by omega
  have nNZ : N ≠ Z := by omega
  have nRN : R ≠ N := by omega
  have bel2 : Below w.heap.size w w2 := below_step nw1.below (by omega) nw2.below
  have bel4 : Below w.heap.size w w4 := below_only (below_step bel2 (by omega) nw3.below) ow4 (by omega) (by omega)
  have hN4 : Row w4 N 28 (acs za) := hw4.congr (allA za)
  have hZ4 : Row w4 Z 28 (acs za) := ((hw1.old nw2.below).old nw3.below).only ow4 (by omega)
  have hA2 : RfAt w2 R w.heap.size (b, 0) := ⟨p, cap, b, 0, 0, ⟨hw2, HP.out.below bel2, HCP.out, HN.out, HLTB.out, Nat.zero_le _, HLOW.out, bel2.size⟩, by rw [absR_ok, List.drop_zero], by have := HLB.out; omega⟩
  have hA4 : RfAt w4 R w.heap.size (b, 0) := (hA2.old nw3.below).other ow4 nRN (by omega)
  clear eZ eR eN z1 z2 z3 z4 hw1 hw2 hw3 hw4 nw1 nw2 nw3 ow4 sw4 Ze Re Ne bel2 hA2 HP HCP HN HLTB HLOW HLB
  refine (CT.out R w.heap.size _ hA4).mono ?_
  rintro e w5 ⟨⟨q, c, rfl, hr⟩, hA5, hO⟩
  have hN5 := hN4.only hO (Ne.symm nRN)
  have hZ5 := hZ4.only hO (Ne.symm nRZ)
  have bel5 : Below w.heap.size w w5 := below_only bel4 hO hwR bel4.size
  clear hN4 hZ4 bel4 hO
  have HRD := Lib.hid hr
  clear hr
  go_wp2_with (first
    | ((with_reducible refine at_slot 12 ?_); (refine arm_want (.string st) 12 rfl (by kernel_rfl) (by rw [← HST.out]; exact run_op_toStr _ _ 5 _ rfl (by kernel_rfl) (by kernel_rfl) (by kernel_rfl) q tb.length c tb rfl rfl HRD.out.at_ HLT.out) ?_))
    | ((with_reducible refine arm_storeV (o := ⟨none, _, _, _, _, _⟩) rfl _ _ _ rfl N 0 rfl (.string st) rfl rfl (by kernel_rfl) _ _ hN5 (by rw [acs_len]; omega) ?_); intro w6 hw6 ow6 sw6))
  have hN6 : Row w6 N 28 (acs ⟨st, 0, 0⟩) := hw6
  have hZ6 := hZ5.only ow6 (Ne.symm nNZ)
  have hA6 := hA5.other ow6 nRN hwN
  have bel6 : Below w.heap.size w w6 := below_only bel5 ow6 hwN bel5.size
  clear hw6 ow6 sw6 hN5 hZ5 hA5 bel5
  clear HRD
  refine (CL.out R w.heap.size _ hA6).mono ?_
  rintro e w7 ⟨rfl, hA7, hO⟩
  have hN7 := hN6.only hO (Ne.symm nRN)
  have hZ7 := hZ6.only hO (Ne.symm nRZ)
  have bel7 : Below w.heap.size w w7 := below_only bel6 hO hwR bel6.size
  clear hN6 hZ6 bel6 hO
  go_wp2_with (first
    | ((with_reducible refine arm_storeV (o := ⟨none, _, _, _, _, _⟩) rfl _ _ _ rfl N 1 rfl (.int .u64 (u : Int)) rfl rfl (by kernel_rfl) _ _ hN7 (by rw [acs_len]; omega) ?_); intro w8 hw8 ow8 sw8))
  have hN8 : Row w8 N 28 (acs ⟨st, u, 0⟩) := hw8
  have hZ8 := hZ7.only ow8 (Ne.symm nNZ)
  have hA8 := hA7.other ow8 nRN hwN
  have bel8 : Below w.heap.size w w8 := below_only bel7 ow8 hwN bel7.size
  clear hw8 ow8 sw8 hN7 hZ7 hA7 bel7
  refine (CM.out R w.heap.size _ hA8).mono ?_
  rintro e w9 ⟨rfl, hA9, hO⟩
  have hN9 := hN8.only hO (Ne.symm nRN)
  have hZ9 := hZ8.only hO (Ne.symm nRZ)
  have bel9 : Below w.heap.size w w9 := below_only bel8 hO hwR bel8.size
  clear hN8 hZ8 bel8 hO
  go_wp2_with (first
    | ((with_reducible refine arm_storeV (o := ⟨none, _, _, _, _, _⟩) rfl _ _ _ rfl N 2 rfl (.int .u32 (m : Int)) rfl rfl (by kernel_rfl) _ _ hN9 (by rw [acs_len]; omega) ?_); intro w10 hw10 ow10 sw10))
  have hN10 : Row w10 N 28 (acs ⟨st, u, m⟩) := hw10
  have hZ10 := hZ9.only ow10 (Ne.symm nNZ)
  have hA10 := hA9.other ow10 nRN hwN
  have bel10 : Below w.heap.size w w10 := below_only bel9 ow10 hwN bel9.size
  clear hw10 ow10 sw10 hN9 hZ9 hA9 bel9
  rw [← HA.out] at hN10
  clear CT CL CM HLT HST
  by_cases he : ee = 0
  · have hz : ((ee : Int) != 0) = false := by rw [he]; rfl
    have hz' : ((ee : Int) == 0) = true := by rw [he]; rfl
    have HE := Lib.hid he
    clear he
    by_cases hr : NRt a.nm
    · rw [decide_eq_true hr] at CR
      have HQ := Lib.hid (HD.out.2.2 HE.out hr)
      clear hr HD
      refine (CE.out R w.heap.size _ hA10).mono ?_
      rintro e w11 ⟨rfl, hB11⟩
      have rN := hN10.old hB11
      have hZ := hZ10.old hB11
      have bel : Below w.heap.size w w11 := below_step bel10 bel10.size hB11
      clear hN10 hZ10 hA10 bel10 hB11
      go_wp2_with (first
        | ((with_reducible refine at_slot 27 ?_); (refine arm_load (o := ⟨some 27, _, _, _, _, _⟩) rfl _ _ rfl N 0 rfl (acs a) ((Has.refl _).range rN) (sz_racc a) ?_)))
      refine (CR.out _).mono ?_
      rintro e w12 ⟨rfl, hB12⟩
      have rN4 := rN.old hB12
      have hZ4 := hZ.old hB12
      have bel4 : Below w.heap.size w w12 := below_step bel bel.size hB12
      clear rN hZ hB12
      go_wp2_with (first
        | ((with_reducible refine at_slot 31 ?_); (refine arm_load (o := ⟨some 31, _, _, _, _, _⟩) rfl _ _ rfl N 0 rfl (acs a) ((Has.refl _).range rN4) (sz_racc a) ?_))
        | ((with_reducible refine arm_store (o := ⟨none, _, _, _, _, _⟩) rfl _ _ _ rfl Z 0 rfl (acs a) rfl _ _ (hZ4) (fitA a) (acs_one a) (sz_racc a) ?_); intro w13 hw13 ow13 sw13))
      refine bodyPost_ret (result_row2 (p := 2) (u := 3) (ty := 28) (t := 28) (by kernel_rfl) _ _ Z (acs a) (.int .i64 0) rfl rfl (hw13.congr (allA a)) (sz_racc a)) rfl ⟨by rw [HQ.out]; rfl, below_only bel4 ow13 hwZ bel4.size⟩
    · rw [decide_eq_false hr] at CR
      have HQ := Lib.hid (HD.out.2.1 HE.out hr)
      clear hr HD
      refine (CE.out R w.heap.size _ hA10).mono ?_
      rintro e w11 ⟨rfl, hB11⟩
      have rN := hN10.old hB11
      have hZ := hZ10.old hB11
      have bel : Below w.heap.size w w11 := below_step bel10 bel10.size hB11
      clear hN10 hZ10 hA10 bel10 hB11
      go_wp2_with (first
        | ((with_reducible refine at_slot 27 ?_); (refine arm_load (o := ⟨some 27, _, _, _, _, _⟩) rfl _ _ rfl N 0 rfl (acs a) ((Has.refl _).range rN) (sz_racc a) ?_)))
      refine (CR.out _).mono ?_
      rintro e w12 ⟨rfl, hB12⟩
      have hZ4 := hZ.old hB12
      have bel4 : Below w.heap.size w w12 := below_step bel bel.size hB12
      clear rN hZ hB12
      go_wp2_with (first
        | ((with_reducible refine at_slot 30 ?_); (refine arm_build (o := ⟨some 30, _, _, _, _, _⟩) rfl _ _ rfl (acs za) (by simp only [List.map_toArray, List.map_nil]; exact built_rza) ?_))
        | ((with_reducible refine arm_store (o := ⟨none, _, _, _, _, _⟩) rfl _ _ _ rfl Z 0 rfl (acs za) rfl _ _ (hZ4) (fitA za) (acs_one za) (sz_racc za) ?_); intro w13 hw13 ow13 sw13))
      refine bodyPost_ret (result_row2 (p := 2) (u := 3) (ty := 28) (t := 28) (by kernel_rfl) _ _ Z (acs za) (.int .i64 2) rfl rfl (hw13.congr (allA za)) (sz_racc za)) rfl ⟨by rw [HQ.out]; rfl, below_only bel4 ow13 hwZ bel4.size⟩
  · have hz : ((ee : Int) != 0) = true := by simp; omega
    have hz' : ((ee : Int) == 0) = false := beq_eq_false_iff_ne.2 (by omega)
    have HQ := Lib.hid (HD.out.1 he)
    clear he HD CR
    obtain ⟨z, hzz⟩ : ∃ z : Int, z = (ee : Int) := ⟨_, rfl⟩
    rw [← hzz] at CE hz hz'
    have HZ := Lib.hid hzz
    clear hzz
    refine (CE.out R w.heap.size _ hA10).mono ?_
    rintro e w11 ⟨rfl, hB11⟩
    have hA11 := hA10.old hB11
    have hZ := hZ10.old hB11
    have bel : Below w.heap.size w w11 := below_step bel10 bel10.size hB11
    clear hN10 hZ10 hA10 bel10 hB11
    go_wp2_with (first
      | ((with_reducible refine at_slot 24 ?_); (refine arm_build (o := ⟨some 24, _, _, _, _, _⟩) rfl _ _ rfl (acs za) (by simp only [List.map_toArray, List.map_nil]; exact built_rza) ?_)))
    refine (CE.out R w.heap.size _ hA11).mono ?_
    rintro e w12 ⟨rfl, hB12⟩
    have hZ4 := hZ.old hB12
    have bel4 : Below w.heap.size w w12 := below_step bel bel.size hB12
    clear hZ hB12 hA11
    go_wp2_with (first
      | ((with_reducible refine arm_store (o := ⟨none, _, _, _, _, _⟩) rfl _ _ _ rfl Z 0 rfl (acs za) rfl _ _ (hZ4) (fitA za) (acs_one za) (sz_racc za) ?_); intro w13 hw13 ow13 sw13))
    refine bodyPost_ret (result_row2 (p := 2) (u := 3) (ty := 28) (t := 28) (by kernel_rfl) _ _ Z (acs za) (.int .i64 z) rfl rfl (hw13.congr (allA za)) (sz_racc za)) rfl ⟨by rw [HQ.out, HZ.out], below_only bel4 ow13 hwZ bel4.size⟩
end Go.Proofs.YteomndfalonncaaDoor.Ac
