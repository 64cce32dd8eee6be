import Derived.Test.YtghogoijjaiccaaAccAll
import Derived.Test.YtghogoijjaiccaaWireRefAll
/-
  The contracts of the document's One of layer 3, and of its Bytes, Hash and None of layer 14. Over this seat's translation.
-/
namespace Go.Proofs.Ytghogoijjaiccaa.Ac
open Go.ChangeShapes Go.WideShapes Go.ChangeAt Go.RowKit Go.Proofs.Ytghogoijjaiccaa.Mem Go.Proofs.Ytghogoijjaiccaa.Bt Go.Proofs.Ytghogoijjaiccaa.Wi Go.Proofs.Ytghogoijjaiccaa.Sha
open Go.Proofs.Ytghogoijjaiccaa.Tg (bytesOf bytesOf_length bytesOf_lt bytesOf_inj Rd Rd.below Parts tagD)
open Go.Proofs.Ytghogoijjaiccaa.Ep (H32 zh zh_ok Has h_len szH zH fitH allH)
set_option linter.unusedVariables false
set_option linter.unusedSimpArgs false

/-- What holds in the document's loop that writes a name. -/
structure RbRel (w w0 : World) (X : Nat) (a : Acct) (i v : Value) (wr : World) : Prop where
  ex : ∃ k : Nat, k ≤ a.nm.size ∧ i = .int .i64 (k : Int) ∧ ∃ p cap, v = .slice p (k + 1) cap ∧ Bt.Own wr w.heap.size p cap (a.nm.size :: (bytesOf a.nm).take k)
  row : Row wr X 57 (acs a)
  bel : Below w.heap.size w wr
theorem step_row {w w' : World} {X : Nat} {t : TypeId} {cs : List Value} {base : Nat} {p p' : Option Addr} {cap : Nat} {bs : List Nat} (hx : Row w X t cs) (ht : t ≠ 5) (ho : Bt.Own w base p cap bs) (hs : Step none p p' w w') : Row w' X t cs :=
  hx.of_block (hs.block X hx.lt (by simp) (row_not_own hx ht ho))
theorem step_bel {w w' w0 : World} {base : Nat} {p p' : Option Addr} {cap : Nat} {bs : List Nat} (hb : Below base w0 w) (hbs : base ≤ w.heap.size) (ho : Bt.Own w base p cap bs) (hs : Step none p p' w w') : Below base w0 w' :=
  hb.trans (hs.below (fun k hk => by cases hk) (own_low ho) hbs)
theorem take_next {l : List Nat} {k x : Nat} (hk : k < l.length) (hx : l.getD k 0 = x) : l.take k ++ [x] = l.take (k + 1) := by
  rw [Wi.take_snoc l k hk, hx]
set_option maxHeartbeats 4000000 in
set_option maxRecDepth 100000 in
theorem rbytes_any (a : Acct) (w : World) (k : a.Ok) :
    Calls Try.prog 25 #[.agg (acs a).toArray] w (BytesPost w a) := by
  have KB := Lib.hid k
  have CR := Lib.hid (fun w0 => rright_any a w0)
  clear k
  by_cases hr : NRt a.nm
  · have HB : Hid (ansB a = accB a) := Lib.hid (by unfold ansB; rw [if_pos hr])
    have HE : Hid (ansE a = 0) := Lib.hid (by unfold ansE; rw [if_pos hr])
    rw [decide_eq_true hr] at CR
    have c0 : (acs a)[0]? = some (.string a.nm) := rfl
    have c1 : (acs a)[1]? = some (.int .u64 (a.bal : Int)) := rfl
    have c2 : (acs a)[2]? = some (.int .u32 (a.non : Int)) := rfl
    have C0 := Lib.hid c0; have C1 := Lib.hid c1; have C2 := Lib.hid c2
    have hs8 := hr.2.1
    have HL := Lib.hid (accB_len a)
    have HAC : Hid (accB a = (a.nm.size :: bytesOf a.nm) ++ put a.bal 8 ++ put a.non 4) := Lib.hid rfl
    have CP1 := Lib.hid (fun w0 => Wi.put_any a.bal 8 w0 KB.out.bal (by omega))
    have CP2 := Lib.hid (fun w0 => Wi.put_any a.non 4 w0 (by have := KB.out.non; omega) (by omega))
    have KNON := Lib.hid KB.out.non
    obtain ⟨s, hs⟩ : ∃ s, s = a.nm := ⟨_, rfl⟩
    rw [← hs] at C0 hs8 HL HAC
    obtain ⟨u, hu⟩ : ∃ u, u = a.bal := ⟨_, rfl⟩
    obtain ⟨n, hn⟩ : ∃ n, n = a.non := ⟨_, rfl⟩
    rw [← hu] at C1 CP1 HAC
    rw [← hn] at C2 CP2 HAC KNON
    have HSL := Lib.hid (show s.size = (bytesOf s).length from (bytesOf_length s).symm)
    have HSN := Lib.hid hs
    have HM : Hid ((s.size : Int) % 256 = ((s.size : Nat) : Int)) := Lib.hid (by omega)
    have hwr : IntKind.u8.wrap (s.size : Int) = (s.size : Int) := by rw [IntKind.wrap_u8]; omega
    have hnn : n < 4294967296 := KNON.out
    clear hr hs hu hn c0 c1 c2
    go_enter Try.func25, Try.ntmps25
    go_wp2_with (first
      | ((with_reducible refine at_slot 1 ?_); (refine arm_box (o := ⟨some 1, _, _, _, _, _⟩) rfl _ _ rfl (acs a) rfl ?_); intro X w1 Xe hw1 nw1)
      | ((with_reducible refine at_slot 6 ?_); (refine arm_load (o := ⟨some 6, _, _, _, _, _⟩) rfl _ _ rfl X 0 rfl (acs a) ((Has.refl _).range hw1) (sz_racc a) ?_)))
    refine (CR.out w1).mono ?_
    rintro e w2 ⟨rfl, hB2⟩
    have hX2 := hw1.old hB2
    have bel2 : Below w.heap.size w w2 := below_step nw1.below nw1.below.size hB2
    have hc0 := hX2.cell C0.out
    clear hw1 nw1 Xe hB2
    go_wp2_with (first
      | ((with_reducible refine at_slot 13 ?_); (refine arm_buildSlice (o := ⟨some 13, _, _, _, _, _⟩) rfl 1 _ rfl [.int .u8 (s.size : Int)] #[(0, .int .u8 (s.size : Int))] (by simp [Act.eval]; try exact HM.out) (bs1 _) ?_); intro b3 w3 be hb3 nw3))
    have hX3 := hX2.old nw3.below
    have bel3 : Below w.heap.size w w3 := below_step bel2 bel2.size nw3.below
    have hO3 : Bt.Own w3 w.heap.size (some ⟨b3, 0, none⟩) 1 [s.size] := Tg.own_row (bs := [s.size]) hb3 (by have := be.out; have := bel2.size; omega) (by simp)
    have h0 : RbRel w w3 X a (.int .i64 0) (.slice (some ⟨b3, 0, none⟩) 1 1) w3 := ⟨⟨0, by omega, rfl, _, _, rfl, by rw [List.take_zero, ← HSN.out]; exact hO3⟩, hX3, bel3⟩
    clear hX2 hb3 nw3 be bel2 hX3 bel3 hO3 hc0
    try simp only [Act.put, List.setIfInBounds_toArray, List.set_cons_zero, List.set_cons_succ]
    go_loopw [5, 4] (fun i v wr => RbRel w w3 X a i v wr) (fun i _ _ => s.size - (intOf i).toNat)
    case atStart => exact h0
    case round =>
      clear h0
      obtain ⟨⟨k, hk, rfl, p, cap, rfl, hO⟩, hX, bel⟩ := hrel
      rw [← HSN.out] at hk hO
      have hc0 := hX.cell C0.out
      by_cases hq : k < s.size
      · have ik : (k : Int) < (s.size : Int) := by omega
        obtain ⟨x, hx⟩ : ∃ x, x = (bytesOf s).getD k 0 := ⟨_, rfl⟩
        have HX := Lib.hid hx
        have HO := Lib.hid hO; have HR := Lib.hid hX; have HQ := Lib.hid hq
        have HTN := Lib.hid (take_next (l := bytesOf s) (k := k) (x := x) (by rw [← HSL.out]; exact hq) hx.symm)
        have hlen : (s.size :: (bytesOf s).take k).length = k + 1 := by rw [List.length_cons, List.length_take, ← HSL.out]; omega
        have HLN := Lib.hid hlen
        have hk8 : k < 8 := by omega
        have hbs := bel.size
        clear hx hO hX hlen
        go_wp2_with (first
          | ((with_reducible refine at_slot 25 ?_); (refine arm_indexS (o := ⟨some 25, _, _, _, _, _⟩) rfl _ _ _ rfl (by kernel_rfl) s rfl .i64 k rfl HQ.out x HX.out.symm ?_); try simp only [Act.put, List.setIfInBounds_toArray, List.set_cons_zero, List.set_cons_succ])
          | ((with_reducible refine at_slot 26 ?_); (refine arm_buildSlice (o := ⟨some 26, _, _, _, _, _⟩) rfl 1 _ rfl [.int .u8 (x : Int)] #[(0, .int .u8 (x : Int))] (by simp [Act.eval]) (bs1 _) ?_); intro b4 w4 be hb4 nw4)
          | ((with_reducible refine at_slot 27 ?_); (refine arm_append2 (o := ⟨some 27, _, _, _, _, _⟩) rfl _ _ rfl w.heap.size p (k + 1) cap (s.size :: (bytesOf s).take k) HLN.out.symm rfl (HO.out.below nw4.below) (some ⟨b4, 0, none⟩) 1 1 [x] rfl rfl (fun h => by cases h) (fun _ => ⟨b4, 0, rfl, hb4.range 0 _ (fun j v hj => by rw [Nat.zero_add]; exact hj)⟩) (by rw [HLN.out, List.length_singleton]; omega) (by have := nw4.below.size; omega) ?_); intro p5 cap5 w5 hO5 hS5))
        have hX4 := HR.out.old nw4.below
        have bel4 : Below w.heap.size w w4 := below_step bel hbs nw4.below
        have hX5 : Row w5 X 57 (acs a) := step_row hX4 (by decide) (HO.out.below nw4.below) hS5
        have bel5 : Below w.heap.size w w5 := step_bel bel4 bel4.size (HO.out.below nw4.below) hS5
        rw [List.cons_append, HTN.out] at hO5
        clear hX4 bel4 hS5 hb4 nw4 be bel
        go_roundw
        case rel => exact ⟨⟨k + 1, by rw [← HSN.out]; exact HQ.out, by go_num, p5, cap5, rfl, by rw [← HSN.out]; exact hO5⟩, hX5, bel5⟩
        case measure => simp [intOf]; omega
      · obtain rfl : k = s.size := by omega
        rw [List.take_of_length_le (by rw [← HSL.out]; exact Nat.le_refl _)] at hO
        have hc1 := hX.cell C1.out
        have HO := Lib.hid hO; have HR := Lib.hid hX
        have HLN := Lib.hid (show (s.size :: bytesOf s).length = s.size + 1 by rw [List.length_cons, ← HSL.out])
        have hsM : s.size ≤ 8 := hs8
        clear hO hX hk hq
        obtain ⟨nl, hnl⟩ : ∃ nl, nl = s.size + 1 := ⟨_, rfl⟩
        rw [← hnl] at HLN ⊢
        have hnl9 : nl ≤ 9 := by omega
        clear hnl
        go_wp2_with fail
        refine (CP1.out wr).mono ?_
        rintro e w6 ⟨⟨p6, c6, rfl, hO6⟩, hB6⟩
        have HO6 := Lib.hid hO6
        have hO6' := HO.out.below hB6
        have hX6 := HR.out.old hB6
        have bel6 : Below w.heap.size w w6 := below_step bel bel.size hB6
        clear bel hB6 hc1 HR HO hO6
        have HOA := Lib.hid hO6'
        clear hO6'
        go_wp2_with (first
          | ((with_reducible refine at_slot 32 ?_); (refine arm_append2 (o := ⟨some 32, _, _, _, _, _⟩) rfl _ _ rfl w.heap.size p nl cap (s.size :: bytesOf s) HLN.out.symm rfl HOA.out p6 8 c6 (put u 8) rfl (put_length _ _).symm (fun h => by have := own_none HO6.out h; rw [put_length] at this; omega) HO6.out.bytes (by rw [HLN.out, put_length]; omega) bel6.size ?_); intro p7 c7 w7 hO7 hS7; have hc2 := (step_row hX6 (by decide) HOA.out hS7).cell C2.out))
        have hX7 : Row w7 X 57 (acs a) := step_row hX6 (by decide) HOA.out hS7
        have bel7 : Below w.heap.size w w7 := step_bel bel6 bel6.size HOA.out hS7
        have HO7 := Lib.hid hO7
        clear hX6 bel6 hS7 HOA HO6 hO7
        refine (CP2.out w7).mono ?_
        rintro e w8 ⟨⟨p8, c8, rfl, hO8⟩, hB8⟩
        have HO8 := Lib.hid hO8
        have HOB := Lib.hid (HO7.out.below hB8)
        have bel8 : Below w.heap.size w w8 := below_step bel7 bel7.size hB8
        have HL7 : Hid (((s.size :: bytesOf s) ++ put u 8).length = nl + 8) := Lib.hid (by rw [List.length_append, put_length, HLN.out])
        clear bel7 hB8 hc2 hX7 HO7 hO8
        go_wp2_with (first
          | ((with_reducible refine at_slot 38 ?_); (refine arm_append2 (o := ⟨some 38, _, _, _, _, _⟩) rfl _ _ rfl w.heap.size p7 (nl + 8) c7 ((s.size :: bytesOf s) ++ put u 8) HL7.out.symm rfl HOB.out p8 4 c8 (put n 4) rfl (put_length _ _).symm (fun h => by have := own_none HO8.out h; rw [put_length] at this; omega) HO8.out.bytes (by rw [HL7.out, put_length]; omega) bel8.size ?_); intro p9 c9 w9 hO9 hS9))
        have bel9 : Below w.heap.size w w9 := step_bel bel8 bel8.size HOB.out hS9
        rw [← HAC.out, ← HB.out] at hO9
        have HO9 := Lib.hid hO9
        have HLL : Hid (nl + 8 + 4 = (ansB a).length) := Lib.hid (by rw [HB.out, HAC.out, List.length_append, HL7.out, put_length])
        clear hO9 hS9 bel8 HOB
        go_ret2
        exact ⟨⟨p9, c9, by rw [HE.out, ← HLL.out]; rfl, HO9.out⟩, bel9⟩
  · have HB : Hid (ansB a = []) := Lib.hid (by unfold ansB; rw [if_neg hr])
    have HE : Hid (ansE a = 1) := Lib.hid (by unfold ansE; rw [if_neg hr])
    rw [decide_eq_false hr] at CR
    clear hr
    go_enter Try.func25, Try.ntmps25
    go_wp2_with (first
      | ((with_reducible refine at_slot 1 ?_); (refine arm_box (o := ⟨some 1, _, _, _, _, _⟩) rfl _ _ rfl (acs a) rfl ?_); intro X w1 Xe hw1 nw1)
      | ((with_reducible refine at_slot 6 ?_); (refine arm_load (o := ⟨some 6, _, _, _, _, _⟩) rfl _ _ rfl X 0 rfl (acs a) ((Has.refl _).range hw1) (sz_racc a) ?_)))
    refine (CR.out w1).mono ?_
    rintro e w2 ⟨rfl, hB2⟩
    have bel2 : Below w.heap.size w w2 := below_step nw1.below nw1.below.size hB2
    clear hw1 nw1 Xe hB2
    go_wp2_with fail
    go_ret2
    exact ⟨⟨none, 0, by rw [HE.out, HB.out]; rfl, by rw [HB.out]; exact own_nil _ _⟩, bel2⟩
end Go.Proofs.Ytghogoijjaiccaa.Ac

/-
  The contract of the document's Read of layer 14. Over this seat's translation.
-/
namespace Go.Proofs.Ytghogoijjaiccaa.Ac
open Go.ChangeShapes Go.WideShapes Go.ChangeAt Go.RowKit Go.Proofs.Ytghogoijjaiccaa.Mem Go.Proofs.Ytghogoijjaiccaa.Bt Go.Proofs.Ytghogoijjaiccaa.Wi Go.Proofs.Ytghogoijjaiccaa.Sha
open Go.Proofs.Ytghogoijjaiccaa.Tg (bytesOf bytesOf_length bytesOf_lt bytesOf_inj Rd Rd.below Parts tagD)
open Go.Proofs.Ytghogoijjaiccaa.Ep (H32 zh zh_ok Has h_len szH zH fitH allH)
set_option linter.unusedVariables false
set_option linter.unusedSimpArgs false

theorem built_rd (p : Option Addr) (n c : Nat) : Try.prog.built 91 [(0, .slice p n c)] = some (fcells p n c 0 0).toArray := by kernel_rfl
set_option maxHeartbeats 4000000 in
set_option maxRecDepth 100000 in
theorem rread_any (b : List Nat) (p : Option Addr) (cap : Nat) (w : World) (hp : Rd w p b) (hcp : b.length ≤ cap) (hn : p = none → cap = 0) (hl : b.length ≤ 1000) (hlt : AllLt 256 b) :
    Calls Try.prog 56 #[.slice p b.length cap] w (ReadPost w b) := by
  have HP := Lib.hid hp; have HCP := Lib.hid hcp; have HN := Lib.hid hn; have HLB := Lib.hid hl; have HLTB := Lib.hid hlt
  have hq := q_left b
  have HLT := Lib.hid (q_lt hlt).1
  have HLOW : Hid (b ≠ [] → ∀ k, blk p = some k → k < w.heap.size) := Lib.hid fun hne k hk => by
    obtain ⟨g, o, e, hr⟩ := hp.at_ hne
    rw [e] at hk
    have e2 : g = k := Option.some.inj hk
    subst e2
    exact range_lt hr (by intro h; apply hne; simpa [u8s] using h)
  have CT : Hid (∀ R d w0, RfAt w0 R d (b, 0) → Calls Try.prog 55 #[.pointer (some ⟨R, 0, none⟩), .int .i64 8] w0 (RfText w0 R d (q1 b).1 (q1 b).2)) := Lib.hid fun R d w0 h => fText_any 8 R d (b, 0) w0 h (by omega)
  have CL : Hid (∀ R d w0, RfAt w0 R d (q1 b).2 → Calls Try.prog 29 #[.pointer (some ⟨R, 0, none⟩), .int .i64 8] w0 (RfPost w0 R d (.int .u64 ((q2 b).1 : Int)) (q2 b).2)) := Lib.hid fun R d w0 h => fNumber_any 8 R d (q1 b).2 w0 h (by omega)
  have CM : Hid (∀ R d w0, RfAt w0 R d (q2 b).2 → Calls Try.prog 29 #[.pointer (some ⟨R, 0, none⟩), .int .i64 4] w0 (RfPost w0 R d (.int .u64 ((q3 b).1 : Int)) (q3 b).2)) := Lib.hid fun R d w0 h => fNumber_any 4 R d (q2 b).2 w0 h (by omega)
  have CE : Hid (∀ R d w0, RfAt w0 R d (q3 b).2 → Calls Try.prog 30 #[.pointer (some ⟨R, 0, none⟩)] w0 fun e w' => e = .returned (.int .i64 (eR b : Int)) ∧ Below w0.heap.size w0 w') := Lib.hid fun R d w0 h => fEnd_any R d (q3 b).2 w0 h
  have HA : Hid (accR b = ⟨strOf (q1 b).1, (q2 b).1, (q3 b).1⟩) := Lib.hid rfl
  have HMN := Lib.hid (accR_ok hlt).non
  have CR := Lib.hid (fun w0 => rright_any (accR b) w0)
  have HD : Hid ((eR b ≠ 0 → rdA b = (za, eR b)) ∧ (eR b = 0 → ¬ NRt (accR b).nm → rdA b = (za, 2)) ∧ (eR b = 0 → NRt (accR b).nm → rdA b = (accR b, 0))) := Lib.hid ⟨rdA_bad, rdA_form, rdA_good⟩
  have HMN2 : Hid ((q3 b).1 < 4294967296) := Lib.hid HMN.out
  obtain ⟨tb, htb⟩ : ∃ x, x = (q1 b).1 := ⟨_, rfl⟩
  obtain ⟨s1, hs1⟩ : ∃ x, x = (q1 b).2 := ⟨_, rfl⟩
  obtain ⟨u, hu⟩ : ∃ x, x = (q2 b).1 := ⟨_, rfl⟩
  obtain ⟨s2, hs2⟩ : ∃ x, x = (q2 b).2 := ⟨_, rfl⟩
  obtain ⟨m, hm⟩ : ∃ x, x = (q3 b).1 := ⟨_, rfl⟩
  obtain ⟨s3, hs3⟩ : ∃ x, x = (q3 b).2 := ⟨_, rfl⟩
  obtain ⟨a, ha⟩ : ∃ x, x = accR b := ⟨_, rfl⟩
  obtain ⟨ee, hee⟩ : ∃ x, x = eR b := ⟨_, rfl⟩
  rw [← htb, ← hs1] at CT
  rw [← hs1, ← hu, ← hs2] at CL
  rw [← hs2, ← hm, ← hs3] at CM
  rw [← hs3, ← hee] at CE
  rw [← ha, ← htb, ← hu, ← hm] at HA
  rw [← ha] at CR
  rw [← ha, ← hee] at HD
  rw [← htb] at HLT
  rw [← hm] at HMN2
  have hmm : m < 4294967296 := HMN2.out
  obtain ⟨st, hst⟩ : ∃ x, x = strOf tb := ⟨_, rfl⟩
  rw [← hst] at HA
  have HST := Lib.hid hst.symm
  clear hp hn hl hlt hq htb hs1 hu hs2 hm hs3 ha hee hcp HMN hst
  go_enter Try.func56, Try.ntmps56
  go_wp2_with (first
    | ((with_reducible refine at_slot 2 ?_); (refine arm_alloc (o := ⟨some 2, _, _, _, _, _⟩) rfl _ rfl (acs za) z_racc ?_); intro Z w1 Ze hw1 nw1)
    | ((with_reducible refine at_slot 7 ?_); (refine arm_build (o := ⟨some 7, _, _, _, _, _⟩) rfl _ _ rfl (fcells p b.length cap 0 0) (by simp only [List.map_toArray, List.map_cons, List.map_nil]; exact built_rd _ _ _) ?_))
    | ((with_reducible refine at_slot 8 ?_); (refine arm_box (o := ⟨some 8, _, _, _, _, _⟩) rfl _ _ rfl (fcells p b.length cap 0 0) rfl ?_); intro R w2 Re hw2 nw2)
    | ((with_reducible refine at_slot 9 ?_); (refine arm_build (o := ⟨some 9, _, _, _, _, _⟩) rfl _ _ rfl (acs za) (by simp only [List.map_toArray, List.map_nil]; exact built_rza) ?_))
    | ((with_reducible refine at_slot 5 ?_); (refine arm_alloc (o := ⟨some 5, _, _, _, _, _⟩) rfl _ rfl (acs za) z_racc ?_); intro N w3 Ne hw3 nw3)
    | ((with_reducible refine arm_store (o := ⟨none, _, _, _, _, _⟩) rfl _ _ _ rfl N 0 rfl (acs za) rfl _ _ (hw3) (fitA za) (acs_one za) (sz_racc za) ?_); intro w4 hw4 ow4 sw4))
  have eZ := Ze.out; have eR := Re.out; have eN := Ne.out; have z1 := nw1.size; have z2 := nw2.size; have z3 := nw3.size; have z4 := sw4.out
  have hwZ : w.heap.size ≤ Z := by omega
  have hwR : w.heap.size ≤ R := by omega
  have hwN : w.heap.size ≤ N := by omega
  have nRZ : R ≠ Z := by omega
  have nNZ : N ≠ Z := by omega
  have nRN : R ≠ N := by omega
  have bel2 : Below w.heap.size w w2 := below_step nw1.below (by omega) nw2.below
  have bel4 : Below w.heap.size w w4 := below_only (below_step bel2 (by omega) nw3.below) ow4 (by omega) (by omega)
  have hN4 : Row w4 N 57 (acs za) := hw4.congr (allA za)
  have hZ4 : Row w4 Z 57 (acs za) := ((hw1.old nw2.below).old nw3.below).only ow4 (by omega)
  have hA2 : RfAt w2 R w.heap.size (b, 0) := ⟨p, cap, b, 0, 0, ⟨hw2, HP.out.below bel2, HCP.out, HN.out, HLTB.out, Nat.zero_le _, HLOW.out, bel2.size⟩, by rw [absR_ok, List.drop_zero], by have := HLB.out; omega⟩
  have hA4 : RfAt w4 R w.heap.size (b, 0) := (hA2.old nw3.below).other ow4 nRN (by omega)
  clear eZ eR eN z1 z2 z3 z4 hw1 hw2 hw3 hw4 nw1 nw2 nw3 ow4 sw4 Ze Re Ne bel2 hA2 HP HCP HN HLTB HLOW HLB
  refine (CT.out R w.heap.size _ hA4).mono ?_
  rintro e w5 ⟨⟨q, c, rfl, hr⟩, hA5, hO⟩
  have hN5 := hN4.only hO (Ne.symm nRN)
  have hZ5 := hZ4.only hO (Ne.symm nRZ)
  have bel5 : Below w.heap.size w w5 := below_only bel4 hO hwR bel4.size
  clear hN4 hZ4 bel4 hO
  have HRD := Lib.hid hr
  clear hr
  go_wp2_with (first
    | ((with_reducible refine at_slot 12 ?_); (refine arm_want (.string st) 12 rfl (by kernel_rfl) (by rw [← HST.out]; exact run_op_toStr _ _ 5 _ rfl (by kernel_rfl) (by kernel_rfl) (by kernel_rfl) q tb.length c tb rfl rfl HRD.out.at_ HLT.out) ?_))
    | ((with_reducible refine arm_storeV (o := ⟨none, _, _, _, _, _⟩) rfl _ _ _ rfl N 0 rfl (.string st) rfl rfl (by kernel_rfl) _ _ hN5 (by rw [acs_len]; omega) ?_); intro w6 hw6 ow6 sw6))
  have hN6 : Row w6 N 57 (acs ⟨st, 0, 0⟩) := hw6
  have hZ6 := hZ5.only ow6 (Ne.symm nNZ)
  have hA6 := hA5.other ow6 nRN hwN
  have bel6 : Below w.heap.size w w6 := below_only bel5 ow6 hwN bel5.size
  clear hw6 ow6 sw6 hN5 hZ5 hA5 bel5
  clear HRD
  refine (CL.out R w.heap.size _ hA6).mono ?_
  rintro e w7 ⟨rfl, hA7, hO⟩
  have hN7 := hN6.only hO (Ne.symm nRN)
  have hZ7 := hZ6.only hO (Ne.symm nRZ)
  have bel7 : Below w.heap.size w w7 := below_only bel6 hO hwR bel6.size
  clear hN6 hZ6 bel6 hO
  go_wp2_with (first
    | ((with_reducible refine arm_storeV (o := ⟨none, _, _, _, _, _⟩) rfl _ _ _ rfl N 1 rfl (.int .u64 (u : Int)) rfl rfl (by kernel_rfl) _ _ hN7 (by rw [acs_len]; omega) ?_); intro w8 hw8 ow8 sw8))
  have hN8 : Row w8 N 57 (acs ⟨st, u, 0⟩) := hw8
  have hZ8 := hZ7.only ow8 (Ne.symm nNZ)
  have hA8 := hA7.other ow8 nRN hwN
  have bel8 : Below w.heap.size w w8 := below_only bel7 ow8 hwN bel7.size
  clear hw8 ow8 sw8 hN7 hZ7 hA7 bel7
  refine (CM.out R w.heap.size _ hA8).mono ?_
  rintro e w9 ⟨rfl, hA9, hO⟩
  have hN9 := hN8.only hO (Ne.symm nRN)
  have hZ9 := hZ8.only hO (Ne.symm nRZ)
  have bel9 : Below w.heap.size w w9 := below_only bel8 hO hwR bel8.size
  clear hN8 hZ8 bel8 hO
  go_wp2_with (first
    | ((with_reducible refine arm_storeV (o := ⟨none, _, _, _, _, _⟩) rfl _ _ _ rfl N 2 rfl (.int .u32 (m : Int)) rfl rfl (by kernel_rfl) _ _ hN9 (by rw [acs_len]; omega) ?_); intro w10 hw10 ow10 sw10))
  have hN10 : Row w10 N 57 (acs ⟨st, u, m⟩) := hw10
  have hZ10 := hZ9.only ow10 (Ne.symm nNZ)
  have hA10 := hA9.other ow10 nRN hwN
  have bel10 : Below w.heap.size w w10 := below_only bel9 ow10 hwN bel9.size
  clear hw10 ow10 sw10 hN9 hZ9 hA9 bel9
  rw [← HA.out] at hN10
  clear CT CL CM HLT HST
  by_cases he : ee = 0
  · have hz : ((ee : Int) != 0) = false := by rw [he]; rfl
    have hz' : ((ee : Int) == 0) = true := by rw [he]; rfl
    have HE := Lib.hid he
    clear he
    by_cases hr : NRt a.nm
    · rw [decide_eq_true hr] at CR
      have HQ := Lib.hid (HD.out.2.2 HE.out hr)
      clear hr HD
      refine (CE.out R w.heap.size _ hA10).mono ?_
      rintro e w11 ⟨rfl, hB11⟩
      have rN := hN10.old hB11
      have hZ := hZ10.old hB11
      have bel : Below w.heap.size w w11 := below_step bel10 bel10.size hB11
      clear hN10 hZ10 hA10 bel10 hB11
      go_wp2_with (first
        | ((with_reducible refine at_slot 27 ?_); (refine arm_load (o := ⟨some 27, _, _, _, _, _⟩) rfl _ _ rfl N 0 rfl (acs a) ((Has.refl _).range rN) (sz_racc a) ?_)))
      refine (CR.out _).mono ?_
      rintro e w12 ⟨rfl, hB12⟩
      have rN4 := rN.old hB12
      have hZ4 := hZ.old hB12
      have bel4 : Below w.heap.size w w12 := below_step bel bel.size hB12
      clear rN hZ hB12
      go_wp2_with (first
        | ((with_reducible refine at_slot 31 ?_); (refine arm_load (o := ⟨some 31, _, _, _, _, _⟩) rfl _ _ rfl N 0 rfl (acs a) ((Has.refl _).range rN4) (sz_racc a) ?_))
        | ((with_reducible refine arm_store (o := ⟨none, _, _, _, _, _⟩) rfl _ _ _ rfl Z 0 rfl (acs a) rfl _ _ (hZ4) (fitA a) (acs_one a) (sz_racc a) ?_); intro w13 hw13 ow13 sw13))
      refine bodyPost_ret (result_row2 (p := 2) (u := 3) (ty := 57) (t := 57) (by kernel_rfl) _ _ Z (acs a) (.int .i64 0) rfl rfl (hw13.congr (allA a)) (sz_racc a)) rfl ⟨by rw [HQ.out]; rfl, below_only bel4 ow13 hwZ bel4.size⟩
    · rw [decide_eq_false hr] at CR
      have HQ := Lib.hid (HD.out.2.1 HE.out hr)
      clear hr HD
      refine (CE.out R w.heap.size _ hA10).mono ?_
      rintro e w11 ⟨rfl, hB11⟩
      have rN := hN10.old hB11
      have hZ := hZ10.old hB11
      have bel : Below w.heap.size w w11 := below_step bel10 bel10.size hB11
      clear hN10 hZ10 hA10 bel10 hB11
      go_wp2_with (first
        | ((with_reducible refine at_slot 27 ?_); (refine arm_load (o := ⟨some 27, _, _, _, _, _⟩) rfl _ _ rfl N 0 rfl (acs a) ((Has.refl _).range rN) (sz_racc a) ?_)))
      refine (CR.out _).mono ?_
      rintro e w12 ⟨rfl, hB12⟩
      have hZ4 := hZ.old hB12
      have bel4 : Below w.heap.size w w12 := below_step bel bel.size hB12
      clear rN hZ hB12
      go_wp2_with (first
        | ((with_reducible refine at_slot 30 ?_); (refine arm_build (o := ⟨some 30, _, _, _, _, _⟩) rfl _ _ rfl (acs za) (by simp only [List.map_toArray, List.map_nil]; exact built_rza) ?_))
        | ((with_reducible refine arm_store (o := ⟨none, _, _, _, _, _⟩) rfl _ _ _ rfl Z 0 rfl (acs za) rfl _ _ (hZ4) (fitA za) (acs_one za) (sz_racc za) ?_); intro w13 hw13 ow13 sw13))
      refine bodyPost_ret (result_row2 (p := 2) (u := 3) (ty := 57) (t := 57) (by kernel_rfl) _ _ Z (acs za) (.int .i64 2) rfl rfl (hw13.congr (allA za)) (sz_racc za)) rfl ⟨by rw [HQ.out]; rfl, below_only bel4 ow13 hwZ bel4.size⟩
  · have hz : ((ee : Int) != 0) = true := by simp; omega
    have hz' : ((ee : Int) == 0) = false := beq_eq_false_iff_ne.2 (by omega)
    have HQ := Lib.hid (HD.out.1 he)
    clear he HD CR
    obtain ⟨z, hzz⟩ : ∃ z : Int, z = (ee : Int) := ⟨_, rfl⟩
    rw [← hzz] at CE hz hz'
    have HZ := Lib.hid hzz
    clear hzz
    refine (CE.out R w.heap.size _ hA10).mono ?_
    rintro e w11 ⟨rfl, hB11⟩
    have hA11 := hA10.old hB11
    have hZ := hZ10.old hB11
    have bel : Below w.heap.size w w11 := below_step bel10 bel10.size hB11
    clear hN10 hZ10 hA10 bel10 hB11
    go_wp2_with (first
      | ((with_reducible refine at_slot 24 ?_); (refine arm_build (o := ⟨some 24, _, _, _, _, _⟩) rfl _ _ rfl (acs za) (by simp only [List.map_toArray, List.map_nil]; exact built_rza) ?_)))
    refine (CE.out R w.heap.size _ hA11).mono ?_
    rintro e w12 ⟨rfl, hB12⟩
    have hZ4 := hZ.old hB12
    have bel4 : Below w.heap.size w w12 := below_step bel bel.size hB12
    clear hZ hB12 hA11
    go_wp2_with (first
      | ((with_reducible refine arm_store (o := ⟨none, _, _, _, _, _⟩) rfl _ _ _ rfl Z 0 rfl (acs za) rfl _ _ (hZ4) (fitA za) (acs_one za) (sz_racc za) ?_); intro w13 hw13 ow13 sw13))
    refine bodyPost_ret (result_row2 (p := 2) (u := 3) (ty := 57) (t := 57) (by kernel_rfl) _ _ Z (acs za) (.int .i64 z) rfl rfl (hw13.congr (allA za)) (sz_racc za)) rfl ⟨by rw [HQ.out, HZ.out], below_only bel4 ow13 hwZ bel4.size⟩
end Go.Proofs.Ytghogoijjaiccaa.Ac
